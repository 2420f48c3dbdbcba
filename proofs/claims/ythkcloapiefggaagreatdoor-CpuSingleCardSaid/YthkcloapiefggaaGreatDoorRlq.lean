/- Moved out of Rld. -/
import Derived.Test.YthkcloapiefggaaGreatDoorXsm
namespace Go.Proofs.YthkcloapiefggaaGreatDoor
set_option linter.unusedVariables false
set_option linter.unusedSimpArgs false
set_option maxRecDepth 100000
set_option maxHeartbeats 1000000
open Go.ChangeShapes Go.WideShapes Go.RowKit
def ldA (P:Pl) (I:Im) (pi:Option Addr) (ci:Nat) (pq:Option Addr) (cq:Nat) (T:Tp) (X:Sn) (rb:Nat) (sp:Int) (sv ov:Value):Array Value:=#[.slice P.p0 I.banks.length P.c0,.int .u16 I.en,.int .u16 I.ve,.slice P.p1 I.data.length P.c1,.slice P.p2 I.rel.length P.c2,
 .slice pi T.inn.length ci,.slice pq T.irq.length cq,
 .int .u16 (X.r 0),.int .u16 (X.r 1),.int .u16 (X.r 2),.int .u16 (X.r 3),.int .u16 (X.r 4),.int .u16 (X.r 5),.int .u16 (X.r 6),.int .u16 (X.r 7),
 .int .u16 X.pc,.int .u16 sp,.int .u16 X.fp,.int .u16 X.f,.int .i64 X.bank,.int .i64 X.steps,.int .i64 X.inp,.int .i64 X.pol,
 .slice (some ⟨rb,0,none⟩) 8192 8192,sv,ov,.int .i64 0,.int .u16 0]
theorem built_mq (P:Pl) (I:Im) (pi:Option Addr) (ci:Nat) (pq:Option Addr) (cq:Nat) (T:Tp) (X:Sn) (rb:Nat):
  Tryz.prog.built 96 [(0,.agg (imL P I).toArray),(1,.agg (tpL T pi ci pq cq).toArray),(2,.agg (stX X).toArray),(3,.slice (some ⟨rb,0,none⟩) 8192 8192)]=some (ldA P I pi ci pq cq T X rb X.sp (.slice none 0 0) (.slice none 0 0)):=by kernel_rfl
theorem infoMq:(Tryz.prog.info? 96).map (·.size)=some 28:=by kernel_rfl
theorem stk_take {w:World} {p:Option Addr} {X:Sn} {m:Nat} (h:Sl w p (inC X.stk)) (hm:m≤X.stk.length):Sl w p (stL (loadP X).stk m):=fun j x hx=>by
 have hj:j < m:=by have:=(List.getElem?_eq_some_iff.1 hx).1;rw[stL_len] at this;exact this
 refine h j x ?_
 rw[stL_at _ hj] at hx
 rw[← hx]
 unfold inC
 rw[List.getElem?_map,List.getElem?_eq_getElem (by omega)]
 show _=some (Value.int .u16 (X.stk.getD j 0))
 rw[List.getD_eq_getElem?_getD,List.getElem?_eq_getElem (by omega)];rfl
set_option maxHeartbeats 4000000 in
theorem load_q (P:Pl) (I:Im) (T:Tp) (pi pq:Option Addr) (ci cq:Nat) (X:Sn) (p q:Option Addr) (c d:Nat) (w:World) (hI:I.Ok) (hT:T.Ok) (hX:X.Ok) (hp:Has w P I) (h1:Slo w pi (inC T.inn)) (h2:Slo w pq (irC T.irq)) (h3:SnH w X p q) (hc:X.stk.length≤c) (hl:X.out.length≤1000000000):
  Calls Tryz.prog 36 #[.agg #[.slice P.p0 I.banks.length P.c0,.int .u16 I.en,.int .u16 I.ve,.slice P.p1 I.data.length P.c1,.slice P.p2 I.rel.length P.c2],.agg #[.slice pi T.inn.length ci,.slice pq T.irq.length cq],.agg #[.int .u16 (X.r 0),.int .u16 (X.r 1),.int .u16 (X.r 2),.int .u16 (X.r 3),.int .u16 (X.r 4),.int .u16 (X.r 5),.int .u16 (X.r 6),.int .u16 (X.r 7),.int .u16 X.pc,.int .u16 X.sp,.int .u16 X.fp,.int .u16 X.f,.int .i64 X.bank,.int .i64 X.steps,.int .i64 X.inp,.int .i64 X.pol,.string X.ram,.slice p X.stk.length c,.slice q X.out.length d]] w fun e w'=>LdE w P I pi ci pq cq T X e w':=by
 obtain⟨i0,hi,hz0,hz1,hz2⟩:=info_parts info8'
 have HX:=box3 w #[.slice P.p0 I.banks.length P.c0,.int .u16 I.en,.int .u16 I.ve,.slice P.p1 I.data.length P.c1,.slice P.p2 I.rel.length P.c2] #[.slice pi T.inn.length ci,.slice pq T.irq.length cq] #[.int .u16 (X.r 0),.int .u16 (X.r 1),.int .u16 (X.r 2),.int .u16 (X.r 3),.int .u16 (X.r 4),.int .u16 (X.r 5),.int .u16 (X.r 6),.int .u16 (X.r 7),.int .u16 X.pc,.int .u16 X.sp,.int .u16 X.fp,.int .u16 X.f,.int .i64 X.bank,.int .i64 X.steps,.int .i64 X.inp,.int .i64 X.pol,.string X.ram,.slice p X.stk.length c,.slice q X.out.length d]
 have HBx:=Lib.hid HX
 have H3:=Lib.hid h3
 have HEnv:=Lib.hid (And.intro hI (And.intro hT (And.intro hX (And.intro hp (And.intro h1 h2)))))
 have HC:=Lib.hid hc
 have HL:=Lib.hid hl
 clear hI hT hX hp h1 h2 h3 HX hc hl
 go_enter Tryz.func36,Tryz.ntmps36
 go_upto_region 1 with fail
 obtain⟨W0,hW0⟩:∃ W0,((w.alloc (.cells #[.slice P.p0 I.banks.length P.c0,.int .u16 I.en,.int .u16 I.ve,.slice P.p1 I.data.length P.c1,.slice P.p2 I.rel.length P.c2] 33)).alloc (.cells #[.slice pi T.inn.length ci,.slice pq T.irq.length cq] 43)).alloc (.cells #[.int .u16 (X.r 0),.int .u16 (X.r 1),.int .u16 (X.r 2),.int .u16 (X.r 3),.int .u16 (X.r 4),.int .u16 (X.r 5),.int .u16 (X.r 6),.int .u16 (X.r 7),.int .u16 X.pc,.int .u16 X.sp,.int .u16 X.fp,.int .u16 X.f,.int .i64 X.bank,.int .i64 X.steps,.int .i64 X.inp,.int .i64 X.pol,.string X.ram,.slice p X.stk.length c,.slice q X.out.length d] 40)=W0:=⟨_,rfl⟩
 rw[hW0] at HBx
 rw[hW0]
 obtain⟨n,hn⟩:∃ n,w.heap.size=n:=⟨_,rfl⟩
 have HN:=Lib.hid hn
 rw[hn] at HBx
 rw[hn]
 clear hW0 hn
 have R0:W0.drew.rangeAt n 0 (imL P I):=range_at HBx.out.h0 _ (fun j v hv=>by rw[← hv];simp[imL])
 have R1:W0.drew.rangeAt (n+1) 0 (tpL T pi ci pq cq):=range_at HBx.out.h1 _ (fun j v hv=>by rw[← hv];simp[tpL])
 have R2:W0.drew.rangeAt (n+2) 0 (stX X):=range_at HBx.out.h2 _ (fun j v hv=>by
  have hj:j < 16:=by have:=(List.getElem?_eq_some_iff.1 hv).1;simpa [stX] using this
  rw[← hv]
  rcases(show j=0∨j=1∨j=2∨j=3∨j=4∨j=5∨j=6∨j=7∨j=8∨j=9∨j=10∨j=11∨j=12∨j=13∨j=14∨j=15 by omega) with rfl | rfl | rfl | rfl | rfl | rfl | rfl | rfl | rfl | rfl | rfl | rfl | rfl | rfl | rfl | rfl<;>rfl)
 have HBd:Hid (Below n w W0.drew):=Lib.hid HBx.out.bel.drew
 have HXd:Hid (W0.drew.heap[n+2]? =some (.cells #[.int .u16 (X.r 0),.int .u16 (X.r 1),.int .u16 (X.r 2),.int .u16 (X.r 3),.int .u16 (X.r 4),.int .u16 (X.r 5),.int .u16 (X.r 6),.int .u16 (X.r 7),.int .u16 X.pc,.int .u16 X.sp,.int .u16 X.fp,.int .u16 X.f,.int .i64 X.bank,.int .i64 X.steps,.int .i64 X.inp,.int .i64 X.pol,.string X.ram,.slice p X.stk.length c,.slice q X.out.length d] 40 (0,0))):=Lib.hid HBx.out.h2
 have HSz:Hid (W0.drew.heap.size=n+3):=Lib.hid HBx.out.size
 refine wp_region_held_drew (S:=fun w'=>w'.rangeAt n 0 (imL P I)∧w'.rangeAt (n+1) 0 (tpL T pi ci pq cq)∧w'.rangeAt (n+2) 0 (stX X)) (by kernel_rfl) ⟨R0,R1,R2⟩ (fun hHeld=>?_)
 obtain⟨wd,hwd⟩:∃ wd,W0.drew=wd:=⟨_,rfl⟩
 rw[hwd] at HBd HXd HSz R0 R1 R2 hHeld
 rw[hwd]
 clear hwd HBx
 have HR:=Lib.hid (And.intro R0 (And.intro R1 R2))
 clear R0 R1 R2
 refine tk 0 _ rfl (yieldsIf_load_mid (by rfl) 33 _ rfl n 0 rfl (imL P I) _ (fun w hw=>hw.1) Tryz.underlying33 rfl infoIm) ?_
 refine tk 1 _ rfl (yieldsIf_load_mid (by rfl) 43 _ rfl (n+1) 0 rfl (tpL T pi ci pq cq) _ (fun w hw=>hw.2.1) Tryz.underlying43 rfl infoTp) ?_
 refine tq 2 rfl ?_
 refine tk 3 _ rfl (yieldsIf_load_mid (by rfl) 36 _ rfl (n+2) 0 rfl (stX X) _ (fun w hw=>hw.2.2) Tryz.underlying36 rfl infoSt4) ?_
 refine rd1 4 rfl (fun K hK=>?_)
 refine Eq.mpr (if_pos (by rfl)) ?_
 refine wp_make_full _ _ _ 41 rfl 0 5 i0 (.int .u8 0) 1 Tryz.underlying41 hi hz0 hz1 .i64 .i64 8192 rfl rfl (by rw[hz2];decide) (by decide) (Nat.zero_le _) ?_
 intro wm hown hgr
 have hbm:=below_of_grown hgr
 have HZR:=Lib.hid (zero_blk hown)
 have HRm:=Lib.hid (And.intro (range_next HR.out.1 hbm) (And.intro (range_next HR.out.2.1 hbm) (range_next HR.out.2.2 hbm)))
 have HBm:=Lib.hid (HBd.out.trans (hbm.mono (by rw[HSz.out];omega)))
 have HXm:=Lib.hid (block_next HXd.out hbm)
 have hrb:wd.heap.size=n+3:=HSz.out
 clear hown hgr hbm HR HBd HXd HSz hi hz0 hz1 hz2
 rw[hrb] at HZR
 rw[hrb]
 clear hrb
 refine hK.out _ _ HRm.out (fun hHeld=>?_)
 clear hK K
 try simp only[lay]
 refine rd1 5 rfl (fun K hK=>?_)
 refine Eq.mpr (if_pos (by rfl)) ?_
 refine wp_build_some 96 _ rfl [(0,.agg (imL P I).toArray),(1,.agg (tpL T pi ci pq cq).toArray),(2,.agg (stX X).toArray),(3,.slice (some ⟨n+3,0,none⟩) 8192 8192)] (by simp only[List.map_toArray,List.map_cons,List.map_nil];rfl) (built_mq P I pi ci pq cq T X (n+3)) ?_
 refine hK.out _ _ HRm.out (fun hHeld=>?_)
 clear hK K
 try simp only[lay]
 have HM1:=Lib.hid (heap_alloc_new wm (.cells (ldA P I pi ci pq cq T X (n+3) X.sp (.slice none 0 0) (.slice none 0 0)) 96))
 have HZ1:=Lib.hid (heap_old _ (.cells (ldA P I pi ci pq cq T X (n+3) X.sp (.slice none 0 0) (.slice none 0 0)) 96) _ HZR.out)
 have HX1:=Lib.hid (heap_old _ (.cells (ldA P I pi ci pq cq T X (n+3) X.sp (.slice none 0 0) (.slice none 0 0)) 96) _ HXm.out)
 have hba:Below wm.heap.size wm (wm.alloc (.cells (ldA P I pi ci pq cq T X (n+3) X.sp (.slice none 0 0) (.slice none 0 0)) 96)):=(Below.refl _ _).alloc (Nat.le_refl _) _
 have HR1:=Lib.hid (And.intro (range_next HRm.out.1 hba) (And.intro (range_next HRm.out.2.1 hba) (range_next HRm.out.2.2 hba)))
 have HB1:=Lib.hid (HBm.out.trans (hba.mono (by have h1:=lt_of_block HXm.out;omega)))
 have HLt:=Lib.hid (show n+3 < wm.heap.size from lt_of_block HZR.out)
 clear hba
 refine rd1 6 rfl (fun K hK=>?_)
 go_simp
 refine hK.out _ _ HR1.out (fun hHeld=>?_)
 clear hK K hHeld HRm HBm HZR HXm
 try simp only[lay]
 obtain⟨W1,hW1⟩:∃ W,wm.alloc (.cells (ldA P I pi ci pq cq T X (n+3) X.sp (.slice none 0 0) (.slice none 0 0)) 96)=W:=⟨_,rfl⟩
 rw[hW1] at HM1 HZ1 HX1 HR1 HB1
 rw[hW1]
 obtain⟨B,hB⟩:∃ B,wm.heap.size=B:=⟨_,rfl⟩
 rw[hB] at HM1 HLt
 rw[hB]
 clear hW1 hB
 refine tq 7 rfl ?_
 refine wpAnyH_done (by kernel_rfl) ?_ _
 clear HR1
 go_wp2_with fail
 have HS2:Hid (W1.drew.cell? ⟨B,23,none⟩=some (.slice (some ⟨n+3,0,none⟩) 8192 8192)∧W1.drew.cell? ⟨n+2,16,none⟩=some (.string X.ram)):=Lib.hid ⟨block_cells HM1.out 23 _ rfl,block_cells HX1.out 16 _ rfl⟩
 refine wp_region_held_drew (S:=fun w'=>w'.cell? ⟨B,23,none⟩=some (.slice (some ⟨n+3,0,none⟩) 8192 8192)∧w'.cell? ⟨n+2,16,none⟩=some (.string X.ram)) (by kernel_rfl) HS2.out (fun hHeld=>?_)
 refine tq 0 rfl ?_
 refine tq 1 rfl ?_
 refine tq 2 rfl ?_
 refine tq 3 rfl ?_
 refine tq 4 rfl ?_
 refine tq 5 rfl ?_
 have hW2:Hid (∃ W2,W1.drew.setRow (n+3) (spl (List.replicate 8192 (Value.int .u8 0)) 0 (ramX X.ram 8192)).toArray=W2∧W2.heap[n+3]? =some (.cells (spl (List.replicate 8192 (Value.int .u8 0)) 0 (ramX X.ram 8192)).toArray 5 (0,0))∧W2.heap[B]? =some (.cells (ldA P I pi ci pq cq T X (n+3) X.sp (.slice none 0 0) (.slice none 0 0)) 96 (0,0))∧W2.heap[n+2]? =some (.cells #[.int .u16 (X.r 0),.int .u16 (X.r 1),.int .u16 (X.r 2),.int .u16 (X.r 3),.int .u16 (X.r 4),.int .u16 (X.r 5),.int .u16 (X.r 6),.int .u16 (X.r 7),.int .u16 X.pc,.int .u16 X.sp,.int .u16 X.fp,.int .u16 X.f,.int .i64 X.bank,.int .i64 X.steps,.int .i64 X.inp,.int .i64 X.pol,.string X.ram,.slice p X.stk.length c,.slice q X.out.length d] 40 (0,0))∧Below n w W2):=
  Lib.hid ⟨_,rfl,setRow_heap W1.drew (n+3) _ _ 5 (0,0) HZ1.out,(setRow_other W1.drew (n+3) B _ (by have:=HLt.out;omega)).trans HM1.out,(setRow_other W1.drew (n+3) (n+2) _ (by omega)).trans HX1.out,below_setRow HB1.out.drew (by omega) _⟩
 have hrl:(ramX X.ram 8192).length≤8192:=by rw[ramX_len];omega
 refine rd1 6 rfl (fun K hK=>?_)
 refine Eq.mpr (if_pos (by rfl)) ?_
 refine wp_copy_run _ _ _ _ _ rfl _ _ rfl rfl (run_copy_str W1.drew _ _ _ 5 (n+3) 0 8192 8192 X.ram (List.replicate 8192 (.int .u8 0)) 5 Tryz.underlying41 info8 HZ1.out (by rw[List.length_replicate];omega)) ?_
 obtain⟨W2,hW2,hz2,hm2,hx2,hb2⟩:=hW2.out
 rw[hW2]
 clear hW2 hrl HM1 HZ1 HX1 HB1 HS2
 have HM2:=Lib.hid hm2
 have HZ2:=Lib.hid hz2
 have HX2:=Lib.hid hx2
 have HB2:=Lib.hid hb2
 clear hm2 hz2 hx2 hb2
 refine hK.out _ _ ⟨block_cells HM2.out 23 _ rfl,block_cells HX2.out 16 _ rfl⟩ (fun hHeld=>?_)
 clear hK K hHeld
 try simp only[lay]
 refine wpAnyH_done (by kernel_rfl) ?_ _
 go_wp2_with fail
 obtain⟨m,hm⟩:∃ m,min X.stk.length 4096=m:=⟨_,rfl⟩
 have hmn:(if (4096:Int) < (X.stk.length:Int) then(4096:Int) else(X.stk.length:Int))=(m:Int):=by split<;>omega
 have hm0:(0:Int)≤(m:Int):=by omega
 have hmc:(m:Int)≤(c:Int):=by have:=HC.out;omega
 have HMl:=Lib.hid hm
 have HS3:Hid (W2.drew.cell? ⟨n+2,17,none⟩=some (.slice p X.stk.length c)):=Lib.hid (block_cells HX2.out 17 _ rfl)
 refine wp_region_held_drew (S:=fun w'=>w'.cell? ⟨n+2,17,none⟩=some (.slice p X.stk.length c)) (by kernel_rfl) HS3.out (fun hHeld=>?_)
 refine tq 0 rfl ?_
 refine tq 1 rfl ?_
 refine tq 2 rfl ?_
 refine tq 3 rfl ?_
 refine tq 5 rfl ?_
 refine tq 6 rfl ?_
 refine tq 7 rfl ?_
 refine tq 8 rfl ?_
 refine tq 9 rfl ?_
 refine tq 10 rfl ?_
 refine tq 11 rfl ?_
 have c24:W2.drew.cell? ⟨B,24,none⟩=some (.slice none 0 0):=block_cells HM2.out 24 _ rfl
 refine rd1 4 rfl (fun K hK=>?_)
 go_simp
 refine hK.out _ _ HS3.out (fun hHeld=>?_)
 clear hK K hHeld
 try simp only[lay]
 obtain⟨iu,hu,hu0,hu1,hu2⟩:=info_parts infoU
 have hbn:n≤W2.drew.heap.size:=(by have h:=HB2.out.size;rw[HN.out] at h;exact h)
 have HSl:=Lib.hid (stk_take (H3.out.stk.below (HN.out▸HB2.out:Below w.heap.size w W2)) (m:=m) (by omega))
 have hm4:m≤4096:=by omega
 refine rd1 12 rfl (fun K hK=>?_)
 refine Eq.mpr (if_pos (by rfl)) ?_
 refine wp_app _ _ _ 37 rfl 29 iu (.int .u16 0) 1 2 n Tryz.underlying37 hu hu0 hu1 hu2 rfl (by decide) (.slice none 0 0) 0 [] rfl (World.ownsRow_nil _ _ _ _) p m c (stL (loadP X).stk m) rfl (by rw[stL_len];omega) HSl.out (one_u16 _) (by simp only[maxLen];omega) (by omega) hbn ?_
 intro sv W3 hown hgr
 have hgr':=below_of_grown hgr
 rw[Nat.zero_add,List.nil_append] at hown
 obtain⟨sp,sc,hsv,_⟩:=Sl.own hown
 subst hsv
 have HO3:=Lib.hid hown
 have HM3:=Lib.hid (block_next (show W2.drew.heap[B]? =_ from HM2.out) hgr')
 have HZ3:=Lib.hid (block_next (show W2.drew.heap[n+3]? =_ from HZ2.out) hgr')
 have HX3:=Lib.hid (block_next (show W2.drew.heap[n+2]? =_ from HX2.out) hgr')
 have HB3:=Lib.hid (HB2.out.drew.trans (hgr'.mono hbn))
 clear hown hgr hgr' HM2 HZ2 HX2 HB2 HSl HS3 c24 hbn hu hu0 hu1 hu2
 refine hK.out _ _ (block_cells HX3.out 17 _ rfl) (fun hHeld=>?_)
 clear hK K
 try simp only[lay]
 refine tq 13 rfl ?_
 refine tq 14 rfl ?_
 have c24:W3.cell? ⟨B,24,none⟩=some (.slice none 0 0):=block_cells HM3.out 24 _ rfl
 have f24:=frozen_of_row W3 B 24 _ _ HM3.out
 refine rd1 15 rfl (fun K hK=>?_)
 go_simp
 have hne2:n+2≠B:=by have:=HLt.out;omega
 have hne3:n+3≠B:=by have:=HLt.out;omega
 have hm4':=hsc_same W3 B 24 (.slice sp m sc) _ _ _ HM3.out
 have hz4:=(hsc_other W3 ⟨B,24,none⟩ (.slice sp m sc) (n+3) hne3).trans HZ3.out
 have hx4:=(hsc_other W3 ⟨B,24,none⟩ (.slice sp m sc) (n+2) hne2).trans HX3.out
 have hb4:=HB3.out.setCell (p:=⟨B,24,none⟩) (show n≤B by have:=HLt.out;omega) (.slice sp m sc)
 have ho4:=HO3.out.kept (grown_setCell W3 B 24 (.slice sp m sc)) (by
  rcases HO3.out.2 with⟨h,_⟩ | ⟨g,cap,cur,h,_,hb,_⟩
  ·left;rw[h];rfl
  ·right;rw[h];intro e;simp[Value.ownBlock] at e;subst e;rw[HM3.out] at hb;simp at hb)
 obtain⟨W4,hW4⟩:∃ W,W3.setCell ⟨B,24,none⟩ (.slice sp m sc)=W:=⟨_,rfl⟩
 rw[hW4] at hm4' hz4 hx4 hb4 ho4
 rw[hW4]
 refine hK.out _ _ (block_cells hx4 17 _ rfl) (fun hHeld=>?_)
 clear hK K hHeld hW4 c24 f24 HM3 HZ3 HX3 HB3 HO3
 try simp only[lay]
 have HM4:=Lib.hid (show W4.heap[B]? =some (.cells (ldA P I pi ci pq cq T X (n+3) X.sp (.slice sp m sc) (.slice none 0 0)) 96 (0,0)) from hm4')
 have HZ4:=Lib.hid hz4
 have HX4:=Lib.hid hx4
 have HB4:=Lib.hid hb4
 have HO4:=Lib.hid ho4
 clear hm4' hz4 hx4 hb4 ho4
 refine wpAnyH_done (by kernel_rfl) ?_ _
 go_wp2_with fail
 have HS5:Hid (W4.drew.cell? ⟨n+2,18,none⟩=some (.slice q X.out.length d)):=Lib.hid (block_cells HX4.out 18 _ rfl)
 refine wp_region_held_drew (S:=fun w'=>w'.cell? ⟨n+2,18,none⟩=some (.slice q X.out.length d)) (by kernel_rfl) HS5.out (fun hHeld=>?_)
 refine tq 0 rfl ?_
 refine tq 1 rfl ?_
 refine tq 2 rfl ?_
 refine tq 3 rfl ?_
 refine tq 5 rfl ?_
 refine tq 6 rfl ?_
 have c25:W4.drew.cell? ⟨B,25,none⟩=some (.slice none 0 0):=block_cells HM4.out 25 _ rfl
 refine rd1 4 rfl (fun K hK=>?_)
 go_simp
 refine hK.out _ _ HS5.out (fun hHeld=>?_)
 clear hK K hHeld
 try simp only[lay]
 obtain⟨ie,he,he0,he1,he2⟩:=info_parts infoEv
 have hbn:n≤W4.drew.heap.size:=(by have h:=HB4.out.size;rw[HN.out] at h;exact h)
 have HSl:=Lib.hid (H3.out.out.below (HN.out▸HB4.out:Below w.heap.size w W4))
 have hlo:=HL.out
 refine rd1 7 rfl (fun K hK=>?_)
 refine Eq.mpr (if_pos (by rfl)) ?_
 refine wp_app _ _ _ 38 rfl 81 ie (.agg #[.int .u16 0,.int .u16 0]) 2 4 n Tryz.underlying38 he he0 he1 he2 rfl (by decide) (.slice none 0 0) 0 [] rfl (World.ownsRow_nil _ _ _ _) q X.out.length d (evC X.out) rfl (by rw[evC_length];omega) HSl.out (one_evs _) (by simp only[maxLen];omega) (by omega) hbn ?_
 intro ov W5 hown hgr
 have hgr':=below_of_grown hgr
 rw[Nat.zero_add,List.nil_append] at hown
 obtain⟨oq,oc,hov,_⟩:=Sl.own hown
 subst hov
 have HO5:=Lib.hid hown
 have HM5:=Lib.hid (block_next (show W4.drew.heap[B]? =_ from HM4.out) hgr')
 have HZ5:=Lib.hid (block_next (show W4.drew.heap[n+3]? =_ from HZ4.out) hgr')
 have HX5:=Lib.hid (block_next (show W4.drew.heap[n+2]? =_ from HX4.out) hgr')
 have HB5:=Lib.hid (HB4.out.drew.trans (hgr'.mono hbn))
 have HS6:=Lib.hid (HO4.out.kept (show W4.grownBy W5 none from⟨hgr.os,hgr.tape,hgr.output,hgr.size,hgr.block⟩) (by cases (Value.slice sp m sc).ownBlock<;>simp))
 clear hown hgr hgr' HM4 HZ4 HX4 HB4 HO4 HSl HS5 c25 hbn he he0 he1 he2
 refine hK.out _ _ (block_cells HX5.out 18 _ rfl) (fun hHeld=>?_)
 clear hK K
 try simp only[lay]
 refine tq 8 rfl ?_
 refine tq 9 rfl ?_
 have c25:W5.cell? ⟨B,25,none⟩=some (.slice none 0 0):=block_cells HM5.out 25 _ rfl
 have f25:=frozen_of_row W5 B 25 _ _ HM5.out
 refine rd1 10 rfl (fun K hK=>?_)
 go_simp
 have hm6':=hsc_same W5 B 25 (.slice oq X.out.length oc) _ _ _ HM5.out
 have hz6:=(hsc_other W5 ⟨B,25,none⟩ (.slice oq X.out.length oc) (n+3) hne3).trans HZ5.out
 have hx6:=(hsc_other W5 ⟨B,25,none⟩ (.slice oq X.out.length oc) (n+2) hne2).trans HX5.out
 have hb6:=HB5.out.setCell (p:=⟨B,25,none⟩) (show n≤B by have:=HLt.out;omega) (.slice oq X.out.length oc)
 have ho6:=HO5.out.kept (grown_setCell W5 B 25 (.slice oq X.out.length oc)) (by
  rcases HO5.out.2 with⟨h,_⟩ | ⟨g,cap,cur,h,_,hb,_⟩
  ·left;rw[h];rfl
  ·right;rw[h];intro e;simp[Value.ownBlock] at e;subst e;rw[HM5.out] at hb;simp at hb)
 have hs6:=HS6.out.kept (grown_setCell W5 B 25 (.slice oq X.out.length oc)) (by
  rcases HS6.out.2 with⟨h,_⟩ | ⟨g,cap,cur,h,_,hb,_⟩
  ·left;rw[h];rfl
  ·right;rw[h];intro e;simp[Value.ownBlock] at e;subst e;rw[HM5.out] at hb;simp at hb)
 obtain⟨W6,hW6⟩:∃ W,W5.setCell ⟨B,25,none⟩ (.slice oq X.out.length oc)=W:=⟨_,rfl⟩
 rw[hW6] at hm6' hz6 hx6 hb6 ho6 hs6
 rw[hW6]
 refine hK.out _ _ (block_cells hx6 18 _ rfl) (fun hHeld=>?_)
 clear hK K hHeld hW6 c25 f25 HM5 HZ5 HX5 HB5 HO5 HS6 hx6
 try simp only[lay]
 refine wpAnyH_done (by kernel_rfl) ?_ _
 have HM6:=Lib.hid (show W6.heap[B]? =some (.cells (ldA P I pi ci pq cq T X (n+3) X.sp (.slice sp m sc) (.slice oq X.out.length oc)) 96 (0,0)) from hm6')
 have HZ6:=Lib.hid hz6
 have HB6:=Lib.hid hb6
 have HO6:=Lib.hid ho6
 have HS6:=Lib.hid hs6
 have c24:W6.cell? ⟨B,24,none⟩=some (.slice sp m sc):=block_cells HM6.out 24 _ rfl
 have c16:W6.cell? ⟨B,16,none⟩=some (.int .u16 X.sp):=block_cells HM6.out 16 _ rfl
 have f16:=frozen_of_row W6 B 16 _ _ HM6.out
 have hw16:IntKind.u16.wrap (m:Int)=(m:Int):=(IntKind.wrap_u16 _).trans (Int.emod_eq_of_lt (by omega) (by omega))
 clear hm6' hz6 hb6 ho6 hs6
 go_wp2_with fail
 go_ret
 refine⟨⟨w,P,I,pi,ci,pq,cq,T,B,n+3,(m:Int)⟩,.slice sp m sc,.slice oq X.out.length oc,rfl,rfl,rfl,rfl,rfl,rfl,rfl,rfl,rfl,?_,?_⟩
 ·show(m:Int)=((min X.stk.length 4096:Nat):Int);omega
 ·have hmm:=HMl.out
  have hE:Qe.Ok ⟨w,P,I,pi,ci,pq,cq,T,B,n+3,(m:Int)⟩:=⟨HEnv.out.1,HEnv.out.2.1,HEnv.out.2.2.2.1,HEnv.out.2.2.2.2.1,HEnv.out.2.2.2.2.2,(show w.heap.size≤B by have h1:=HN.out;have h2:=HLt.out;omega),(show w.heap.size≤n+3 by have h1:=HN.out;omega)⟩
  refine⟨loadP_ok HEnv.out.2.2.1,hE,?_,?_,?_,?_,?_,?_⟩
  ·show Below w.heap.size w _
   rw[HN.out];exact HB6.out.setCell (p:=⟨B,16,none⟩) (show n≤B by have:=HLt.out;omega) _
  ·exact hsc_same W6 B 16 (.int .u16 (m:Int)) _ _ _ HM6.out
  ·refine⟨_,(hsc_other W6 ⟨B,16,none⟩ _ (n+3) hne3).trans HZ6.out,?_,fun j hj=>?_⟩
   ·have hrl:(ramX X.ram 8192).length≤8192:=by rw[ramX_len];omega
    rw[List.size_toArray,spl_len (by rw[List.length_replicate];omega),List.length_replicate]
   ·have hrl:(ramX X.ram 8192).length=min 8192 X.ram.size:=ramX_len _ _
    rw[List.getElem?_toArray,spl_at (by rw[List.length_replicate];omega)]
    by_cases c3:j < (ramX X.ram 8192).length
    ·rw[if_pos (by omega),Nat.sub_zero,ramX_at _ _ _ c3];rfl
    ·rw[if_neg (by omega),List.getElem?_replicate,if_pos hj]
     show some (Value.int .u8 0)=some (.int .u8 (ba X.ram j))
     rw[ba_out _ _ (by omega)]
  ·have h:=HS6.out.kept (grown_setCell W6 B 16 (.int .u16 (m:Int))) (by
    rcases HS6.out.2 with⟨h,_⟩ | ⟨g,cap,cur,h,_,hb,_⟩
    ·left;rw[h];rfl
    ·right;rw[h];intro e;simp[Value.ownBlock] at e;subst e;rw[HM6.out] at hb;simp at hb)
   show Stq w.heap.size _ _ (min X.stk.length 4096) 0 _
   rw[hmm,HN.out]
   exact Stq.of h (Nat.zero_le _)
  ·obtain⟨h,_⟩:=Evs.of (l:=X.out) HO6.out
   refine h.grown (grown_setCell W6 B 16 (.int .u16 (m:Int))) (Or.inr fun e=>?_)
   obtain⟨A,hA⟩:=h.typ e
   rw[HM6.out] at hA;simp at hA
  ·show ∀ g,_→w.heap.size≤g
   rw[HN.out];exact(Evs.of (l:=X.out) HO6.out).2
theorem own_ne {w:World} {B B' size size' n n':Nat} {e e':TypeId} {v v':Value} {xs xs':List Value} (h:w.ownsRow B e size v n xs) (h':w.ownsRow B' e' size' v' n' xs') (hne:e≠e'):v.ownBlock=none∨v.ownBlock≠v'.ownBlock:=by
 rcases h.2 with⟨rfl,_⟩ | ⟨g,cap,cur,rfl,_,hb,_⟩
 ·exact .inl rfl
 ·refine .inr fun e0=>?_
  rcases h'.2 with⟨rfl,_⟩ | ⟨g',cap',cur',rfl,_,hb',_⟩
  ·simp[Value.ownBlock] at e0
  ·simp[Value.ownBlock] at e0
   subst e0
   rw[hb] at hb'
   injection hb' with hb';injection hb' with _ ht;exact hne ht
theorem Mq.ram_rng {E:Qe} {sv ov:Value} {S:Ms} {d:Nat} {k i:Int} {w:World} (h:Mq E sv ov S d k i w):w.rangeAt E.rb 0 (ramL S):=fun j v hv=>by
 have hj:j < 8192:=by have:=(List.getElem?_eq_some_iff.1 hv).1;simpa [ramL] using this
 rw[Nat.zero_add,h.cRam j hj,← hv]
 simp[ramL,hj]
theorem Mq.st_rng {E:Qe} {sv ov:Value} {S:Ms} {d:Nat} {k i:Int} {w:World} (h:Mq E sv ov S d k i w) (hq:E.q=(S.sp:Int)):w.rangeAt E.b 7 (stC S):=fun j v hv=>by
 have hj:j < 16:=by have:=(List.getElem?_eq_some_iff.1 hv).1;simpa [stC] using this
 refine h.at (7+j) v ?_
 rw[← hv]
 rcases(show j=0∨j=1∨j=2∨j=3∨j=4∨j=5∨j=6∨j=7∨j=8∨j=9∨j=10∨j=11∨j=12∨j=13∨j=14∨j=15 by omega) with rfl | rfl | rfl | rfl | rfl | rfl | rfl | rfl | rfl | rfl | rfl | rfl | rfl | rfl | rfl | rfl<;>first | rfl | exact congrArg (fun x=>some (Value.int .u16 x)) hq
theorem Mq.reQ {E:Qe} {sv ov:Value} {S:Ms} {d:Nat} {k i:Int} {w:World} (h:Mq E sv ov S d k i w) (q:Int):Mq { E with q:=q } sv ov S d k i (w.setCell ⟨E.b,16,none⟩ (.int .u16 q)):=by
 have h1:=h.set1 (S':=S) (k':=k) (i':=i) 0 (.slice E.P.p0 E.I.banks.length E.P.c0) (by rfl) h.ok rfl rfl rfl rfl
 have hg:=grown_setCell w E.b 16 (.int .u16 q)
 obtain⟨A,a1,a2,a3⟩:=h.ram
 refine⟨h.ok,⟨h.env.I,h.env.T,h.env.has,h.env.hin,h.env.hir,h.env.b,h.env.rb⟩,Below.grown1 h.bel hg h.env.b,hsc_same w E.b 16 (.int .u16 q) _ _ _ h.blk,⟨A,(hg.block E.rb (lt_of_block a1) (fun e=>h.brb (by simpa using e.symm))).trans a1,a2,a3⟩,h.st.kept hg (fun g hgg e=>(h.nst hgg).1 (by simpa using e)),h.out.grown hg (Or.inr fun e=>(h.nout e).1 rfl),h.own⟩
def snQ (S:Ms) (pa:Option Addr) (ca:Nat) (pb:Option Addr) (cb:Nat):Array Value:=#[.int .u16 (S.r 0),.int .u16 (S.r 1),.int .u16 (S.r 2),.int .u16 (S.r 3),.int .u16 (S.r 4),.int .u16 (S.r 5),.int .u16 (S.r 6),.int .u16 (S.r 7),.int .u16 S.pc,.int .u16 (S.sp:Nat),.int .u16 S.fp,.int .u16 S.f,.int .i64 S.bank,.int .i64 S.steps,.int .i64 S.inp,.int .i64 S.pol,.string (u8L S.ram 8192),.slice pa S.sp ca,.slice pb S.out.length cb]
theorem built_sq (S:Ms) (pa:Option Addr) (ca:Nat) (pb:Option Addr) (cb:Nat):Tryz.prog.built 40 [(0,.agg (stC S).toArray),(1,.string (u8L S.ram 8192)),(2,.slice pa S.sp ca),(3,.slice pb S.out.length cb)]=some (snQ S pa ca pb cb):=by kernel_rfl
theorem yields_conv {ops:Array Oper} {S:World→Prop} {o:Oper} {a:Act} {f:Nat→Int} {n b c:Nat} {x:Operand} (hw:Region.wanted o (yielded ops a.tmps)=true) (ho:o.op= .convert 41 9 x) (hx:a.eval x= .slice (some ⟨b,0,none⟩) n c)
  (hS:∀ w,S w→w.rangeAt b 0 (((List.range n).map f).map (Value.int .u8))):YieldsIf Tryz.prog ops S o (.string (u8L f n)) a:= .inl ⟨hw,fun w h=>exec_conv ho hx (conv_gen (hS w h) c)⟩
set_option maxHeartbeats 8000000 in
theorem snap_q' (E:Qe) (sv ov:Value) (S:Ms) (d:Nat) (k i:Int) (w:World) (h:Mq E sv ov S d k i w) (hl:S.out.length≤1000000000):
  Calls Tryz.prog 38 #[.pointer (some ⟨E.b,0,none⟩)] w fun e w'=>SnEnd w.heap.size (snapP S) e w'∧Below E.w0.heap.size E.w0 w'∧(∃ q,w'.heap[E.b]? =some (.cells (mqA { E with q:=q } S sv ov k i) 96 (0,0)))∧∀ g,g < w.heap.size→g≠E.b→w'.heap[g]? =w.heap[g]? :=by
 obtain⟨iu,hu,hu0,hu1,hu2⟩:=info_parts infoU
 obtain⟨ie,he,he0,he1,he2⟩:=info_parts infoEv
 have HM:=Lib.hid (h.alloc (.cells zS 40))
 have HBx:=Lib.hid (heap_alloc_new w (.cells zS 40))
 have HSz:Hid ((w.alloc (.cells zS 40)).heap.size=w.heap.size+1):=Lib.hid (by simp)
 have HNe:=Lib.hid (show w.heap.size≠E.b by have:=h.lt;omega)
 have HL:=Lib.hid hl
 have HLo:=Lib.hid h.bel.size
 have HG0:=Lib.hid (fun g (hg:g < w.heap.size)=>((Below.refl _ w).alloc (Nat.le_refl _) (.cells zS 40)).block g hg)
 obtain⟨sp,sc,hsv,_⟩:=Sl.own h.st.own
 obtain⟨oq,oc,hov,_⟩:=h.out.sl
 subst hsv hov
 have hsp:=h.ok.sp
 have hsp2:(S.sp:Int)≤4096:=by omega
 have hsp3:IntKind.u16.wrap (S.sp:Int)=(S.sp:Int):=(IntKind.wrap_u16 _).trans (Int.emod_eq_of_lt (by omega) (by omega))
 clear h hl
 go_enter Tryz.func38,Tryz.ntmps38
 go_upto_region 1 with fail
 obtain⟨W,hW⟩:∃ W,w.alloc (.cells zS 40)=W:=⟨_,rfl⟩
 rw[hW] at HM HBx HSz HG0
 rw[hW]
 obtain⟨n,hn⟩:∃ n,w.heap.size=n:=⟨_,rfl⟩
 have HN:=Lib.hid hn
 rw[hn] at HBx HSz HNe HLo HG0 ⊢
 clear hW hn
 have c24:W.cell? ⟨E.b,24,none⟩=some (.slice sp S.sp sc):=HM.out.at 24 _ rfl
 have c16:W.cell? ⟨E.b,16,none⟩=some (.int .u16 E.q):=HM.out.at 16 _ rfl
 have f16:=HM.out.frz 16
 have HM1:=Lib.hid (HM.out.reQ (S.sp:Int))
 have HBx1:=Lib.hid ((hsc_other W ⟨E.b,16,none⟩ (.int .u16 (S.sp:Int)) n HNe.out).trans HBx.out)
 have HSz1:Hid ((W.setCell ⟨E.b,16,none⟩ (.int .u16 (S.sp:Int))).heap.size=n+1):=Lib.hid (by rw[← HSz.out];simp)
 have HG1:=Lib.hid (fun g (hg:g < n) (he:g≠E.b)=>(hsc_other W ⟨E.b,16,none⟩ (.int .u16 (S.sp:Int)) g he).trans (HG0.out g hg))
 go_wp2_with fail
 obtain⟨W1,hW1⟩:∃ V,W.setCell ⟨E.b,16,none⟩ (.int .u16 (S.sp:Int))=V:=⟨_,rfl⟩
 rw[hW1] at HM1 HBx1 HSz1 HG1
 rw[hW1]
 clear hW1 c24 c16 f16 HM HBx HSz HG0
 have hSK:∀ U,Below W1.heap.size W1 U→U.rangeAt E.b 7 (stC S)∧U.rangeAt E.rb 0 (ramL S)∧U.cell? ⟨E.b,23,none⟩=some (.slice (some ⟨E.rb,0,none⟩) 8192 8192)∧U.cell? ⟨E.b,24,none⟩=some (.slice sp S.sp sc)∧U.cell? ⟨E.b,25,none⟩=some (.slice oq S.out.length oc):=fun U hU=>
  ⟨(HM1.out.kept hU).st_rng rfl,(HM1.out.kept hU).ram_rng,(HM1.out.kept hU).at 23 _ rfl,(HM1.out.kept hU).at 24 _ rfl,(HM1.out.kept hU).at 25 _ rfl⟩
 have HSK:=Lib.hid hSK
 have HNr:=Lib.hid (show n≠E.rb from fun c=>by obtain⟨A,hA,_⟩:=HM1.out.ram;rw[← c,HBx1.out] at hA;simp at hA)
 have HB1:=Lib.hid (show Below W1.heap.size W1 W1.drew from(Below.refl _ _).drew)
 clear hSK
 refine wp_region_held_drew (S:=fun U=>U.rangeAt E.b 7 (stC S)∧U.rangeAt E.rb 0 (ramL S)∧U.cell? ⟨E.b,23,none⟩=some (.slice (some ⟨E.rb,0,none⟩) 8192 8192)∧U.cell? ⟨E.b,24,none⟩=some (.slice sp S.sp sc)∧U.cell? ⟨E.b,25,none⟩=some (.slice oq S.out.length oc)) (by kernel_rfl) (HSK.out _ HB1.out) (fun hHeld=>?_)
 obtain⟨V0,hV0⟩:∃ V,W1.drew=V:=⟨_,rfl⟩
 rw[hV0] at HB1 hHeld
 rw[hV0]
 clear hV0
 refine tq 0 rfl ?_
 refine tq 1 rfl ?_
 refine tq 2 rfl ?_
 refine tk 3 _ rfl (yieldsIf_load_mid (by rfl) 36 _ rfl E.b 7 rfl (stC S) _ (fun w hw=>hw.1) Tryz.underlying36 rfl infoSt) ?_
 refine tq 4 rfl ?_
 refine tq 5 rfl ?_
 refine tq 6 rfl ?_
 refine tq 7 rfl ?_
 refine tk 8 _ rfl (yields_conv (f:=S.ram) (n:=8192) (b:=E.rb) (c:=8192) (by rfl) rfl rfl (fun w hw=>hw.2.1)) ?_
 refine tq 10 rfl ?_
 refine tq 11 rfl ?_
 refine tq 12 rfl ?_
 refine tq 13 rfl ?_
 refine tq 16 rfl ?_
 refine tq 17 rfl ?_
 refine tq 18 rfl ?_
 refine tq 19 rfl ?_
 have HSA:=Lib.hid (fun U (hU:Below W1.heap.size W1 U)=>(HM1.out.kept hU).st.own)
 have HSB:=Lib.hid (fun U (hU:Below W1.heap.size W1 U)=>(HM1.out.kept hU).out.sl)
 have hB:=HB1.out
 have hlo:=HL.out
 refine wpAnyH_ready (rs:=[9,15]) (by kernel_rfl) (by simp) ?_
 refine(AllReadyH.cons rfl (fun K hK=>?_) (AllReadyH.cons rfl (fun K hK=>?_) AllReadyH.nil))
 ·go_simp
  have hoA:=own_new V0 W1.heap.size 29 1 hB.size
  replace hB:=hB.alloc hB.size (.cells #[] 29)
  obtain⟨gA,hgA⟩:∃ g,V0.heap.size=g:=⟨_,rfl⟩
  have hgeA:W1.heap.size≤gA:=by rw[← hgA];exact(hoA.lt _ rfl).1
  rw[hgA] at hoA
  rw[hgA]
  obtain⟨V1,hV⟩:∃ X,V0.alloc (.cells #[] 29)=X:=⟨_,rfl⟩
  rw[hV] at hB hoA
  rw[hV]
  clear hV hgA
  refine hK.out _ _ (HSK.out _ hB) (fun hHeld=>?_)
  clear hK K hHeld
  try simp only[lay]
  refine wpAnyH_ready (rs:=[14,15]) (by kernel_rfl) (by simp) ?_
  refine(AllReadyH.cons rfl (fun K hK=>?_) (AllReadyH.cons rfl (fun K hK=>?_) AllReadyH.nil))
  ·refine Eq.mpr (if_pos (by rfl)) ?_
   have hsA:=HSA.out _ hB
   obtain⟨_,_,hvA,hslA⟩:=Sl.own hsA
   simp only[Value.slice.injEq] at hvA
   obtain⟨rfl,_,rfl⟩:=hvA
   refine wp_app _ _ _ 37 rfl 29 iu (.int .u16 0) 1 2 W1.heap.size Tryz.underlying37 hu hu0 hu1 hu2 rfl (by decide) _ 0 [] rfl hoA sp S.sp sc (stL S.stk S.sp) rfl (by rw[stL_len];omega) hslA (one_u16 _) (by simp only[maxLen];omega) (by omega) hB.size ?_
   intro vA V2 hnA hgr
   rw[Nat.zero_add,List.nil_append] at hnA
   replace hB:=hB.grown hgr hB.size (fun k hk=>by cases hk;exact hgeA)
   replace hoA:=hnA
   clear hgr
   refine hK.out _ _ (HSK.out _ hB) (fun hHeld=>?_)
   clear hK K hHeld
   try simp only[lay]
   refine wpAnyH_ready (rs:=[15]) (by kernel_rfl) (by simp) ?_
   refine(AllReadyH.cons rfl (fun K hK=>?_) AllReadyH.nil)
   go_simp
   have hoB:=own_new V2 W1.heap.size 81 2 hB.size
   replace hoA:=hoA.alloc (.cells #[] 81)
   replace hB:=hB.alloc hB.size (.cells #[] 81)
   obtain⟨gB,hgB⟩:∃ g,V2.heap.size=g:=⟨_,rfl⟩
   have hgeB:W1.heap.size≤gB:=by rw[← hgB];exact(hoB.lt _ rfl).1
   rw[hgB] at hoB
   rw[hgB]
   obtain⟨V3,hV⟩:∃ X,V2.alloc (.cells #[] 81)=X:=⟨_,rfl⟩
   rw[hV] at hB hoB hoA
   rw[hV]
   clear hV hgB
   refine hK.out _ _ (HSK.out _ hB) (fun hHeld=>?_)
   clear hK K hHeld
   try simp only[lay]
   refine wpAnyH_ready (rs:=[20]) (by kernel_rfl) (by simp) ?_
   refine(AllReadyH.cons rfl (fun K hK=>?_) AllReadyH.nil)
   refine Eq.mpr (if_pos (by rfl)) ?_
   obtain⟨_,_,hvB,hslB⟩:=HSB.out _ hB
   simp only[Value.slice.injEq] at hvB
   obtain⟨rfl,_,rfl⟩:=hvB
   refine wp_app _ _ _ 38 rfl 81 ie (.agg #[.int .u16 0,.int .u16 0]) 2 4 W1.heap.size Tryz.underlying38 he he0 he1 he2 rfl (by decide) _ 0 [] rfl hoB oq S.out.length oc (evC S.out) rfl (by rw[evC_length];omega) hslB (one_evs _) (by simp only[maxLen];omega) (by omega) hB.size ?_
   intro vB V4 hnB hgr
   rw[Nat.zero_add,List.nil_append] at hnB
   replace hoA:=hoA.kept hgr (own_ne hoA hoB (by decide))
   replace hB:=hB.grown hgr hB.size (fun k hk=>by cases hk;exact hgeB)
   replace hoB:=hnB
   clear hgr
   refine hK.out _ _ (HSK.out _ hB) (fun hHeld=>?_)
   clear hK K hHeld
   try simp only[lay]
   obtain⟨pa,ca,hva,_⟩:=Sl.own hoA
   obtain⟨pb,cb,hvb,_⟩:=Sl.own hoB
   subst hva hvb
   have hbk:=block_next HBx1.out hB
   have hfa:From W1.heap.size pa:=fun g hg=>by subst hg;exact(hoA.lt g rfl).1
   have hfb:From W1.heap.size pb:=fun g hg=>by subst hg;exact(hoB.lt g rfl).1
   have hsn:SnH V4 (snapP S) pa pb:=⟨(by obtain⟨p,c,h1,h2⟩:=Sl.own hoA;cases h1;exact h2),(by obtain⟨p,c,h1,h2⟩:=Sl.own hoB;cases h1;exact h2),own_typ hoA,own_typ hoB⟩
   have hcap:(snapP S).stk.length≤ca:=by show((List.range S.sp).map S.stk).length≤ca;rw[List.length_map,List.length_range];exact own_cap hoA
   have HEnd:=Lib.hid (And.intro (hsn.set1 hfa hfb (a:=n) (by rw[HSz1.out];omega) (snQ S pa ca pb cb)) (And.intro hcap (And.intro (show From n pa from fun g hg=>by have:=hfa g hg;rw[HSz1.out] at this;omega) (show From n pb from fun g hg=>by have:=hfb g hg;rw[HSz1.out] at this;omega))))
   have HBE:=Lib.hid (below_setRow (HM1.out.bel.trans (hB.mono HM1.out.bel.size)) (show E.w0.heap.size≤n by exact HLo.out) (snQ S pa ca pb cb))
   have HRw:=Lib.hid (setRow_heap V4 n _ (snQ S pa ca pb cb) 40 (0,0) hbk)
   have HBk:=Lib.hid hbk
   have HBm:=Lib.hid (show(∃ q,(V4.setRow n (snQ S pa ca pb cb)).heap[E.b]? =some (.cells (mqA { E with q:=q } S (.slice sp S.sp sc) (.slice oq S.out.length oc) k i) 96 (0,0)))∧∀ g,g < n→g≠E.b→(V4.setRow n (snQ S pa ca pb cb)).heap[g]? =w.heap[g]? from⟨⟨_,(setRow_other _ _ _ _ (show E.b≠n from Ne.symm HNe.out)).trans (block_next HM1.out.blk hB)⟩,fun g hg he=>(setRow_other _ _ _ _ (by omega)).trans ((hB.block g (by rw[HSz1.out];omega)).trans (HG1.out g hg he))⟩)
   have hSf:=HSK.out _ hB
   have HSf:=Lib.hid (show(V4.setRow n (snQ S pa ca pb cb)).rangeAt E.b 7 (stC S)∧(V4.setRow n (snQ S pa ca pb cb)).rangeAt E.rb 0 (ramL S)∧(V4.setRow n (snQ S pa ca pb cb)).cell? ⟨E.b,23,none⟩=some (.slice (some ⟨E.rb,0,none⟩) 8192 8192)∧(V4.setRow n (snQ S pa ca pb cb)).cell? ⟨E.b,24,none⟩=some (.slice sp S.sp sc)∧(V4.setRow n (snQ S pa ca pb cb)).cell? ⟨E.b,25,none⟩=some (.slice oq S.out.length oc) from
    ⟨fun j v hv=>(cell_setRow_other _ _ _ _ (show E.b≠n from Ne.symm HNe.out)).trans (hSf.1 j v hv),fun j v hv=>(cell_setRow_other _ _ _ _ (show E.rb≠n from Ne.symm HNr.out)).trans (hSf.2.1 j v hv),(cell_setRow_other _ _ _ _ (show E.b≠n from Ne.symm HNe.out)).trans hSf.2.2.1,(cell_setRow_other _ _ _ _ (show E.b≠n from Ne.symm HNe.out)).trans hSf.2.2.2.1,(cell_setRow_other _ _ _ _ (show E.b≠n from Ne.symm HNe.out)).trans hSf.2.2.2.2⟩)
   clear hfa hfb hsn hcap hoA hoB hbk
   refine rd1 21 rfl (fun K hK=>?_)
   refine Eq.mpr (if_pos (by rfl)) ?_
   refine wp_build_some 40 _ rfl [(0,.agg (stC S).toArray),(1,.string (u8L S.ram 8192)),(2,.slice pa S.sp ca),(3,.slice pb S.out.length cb)] (by simp only[List.map_toArray,List.map_cons,List.map_nil];rfl) (built_sq S pa ca pb cb) ?_
   refine hK.out _ _ hSf (fun hHeld=>?_)
   clear hK K
   try simp only[lay]
   refine rd1 22 rfl (fun K hK=>?_)
   refine Eq.mpr (if_pos (by rfl)) ?_
   refine wp_store_row 40 _ _ rfl n (snQ S pa ca pb cb) rfl rfl 40 _ HBk.out infoSn (by rfl) (by simp[snQ,Value.oneCell']) ?_
   refine hK.out _ _ HSf.out (fun hHeld=>?_)
   clear hK K
   try simp only[lay]
   refine wpAnyH_done (by kernel_rfl) ?_ _
   go_wp2_with fail
   exact bodyPost_ret (v:= .agg (snQ S pa ca pb cb)) (results_cell_row rfl _ _ n 40 _ (0,0) _ rfl HRw.out Tryz.underlying40 rfl infoSn) rfl (by rw[HN.out];exact⟨SnEnd.of (c:=ca) (d:=cb) (by unfold snV snA snQ;show _=Ending.returned (.agg #[_,_,_,_,_,_,_,_,_,_,_,_,_,_,_,_,_,.slice pa ((List.range S.sp).map S.stk).length ca,_]);rw[List.length_map,List.length_range];rfl) HEnd.out.1 HEnd.out.2.2.1 HEnd.out.2.2.2 HEnd.out.2.1,HBE.out,HBm.out⟩)
  ·go_simp
   have hoB:=own_new V1 W1.heap.size 81 2 hB.size
   replace hoA:=hoA.alloc (.cells #[] 81)
   replace hB:=hB.alloc hB.size (.cells #[] 81)
   obtain⟨gB,hgB⟩:∃ g,V1.heap.size=g:=⟨_,rfl⟩
   have hgeB:W1.heap.size≤gB:=by rw[← hgB];exact(hoB.lt _ rfl).1
   rw[hgB] at hoB
   rw[hgB]
   obtain⟨V2,hV⟩:∃ X,V1.alloc (.cells #[] 81)=X:=⟨_,rfl⟩
   rw[hV] at hB hoB hoA
   rw[hV]
   clear hV hgB
   refine hK.out _ _ (HSK.out _ hB) (fun hHeld=>?_)
   clear hK K hHeld
   try simp only[lay]
   refine wpAnyH_ready (rs:=[14]) (by kernel_rfl) (by simp) ?_
   refine(AllReadyH.cons rfl (fun K hK=>?_) AllReadyH.nil)
   refine Eq.mpr (if_pos (by rfl)) ?_
   have hsA:=HSA.out _ hB
   obtain⟨_,_,hvA,hslA⟩:=Sl.own hsA
   simp only[Value.slice.injEq] at hvA
   obtain⟨rfl,_,rfl⟩:=hvA
   refine wp_app _ _ _ 37 rfl 29 iu (.int .u16 0) 1 2 W1.heap.size Tryz.underlying37 hu hu0 hu1 hu2 rfl (by decide) _ 0 [] rfl hoA sp S.sp sc (stL S.stk S.sp) rfl (by rw[stL_len];omega) hslA (one_u16 _) (by simp only[maxLen];omega) (by omega) hB.size ?_
   intro vA V3 hnA hgr
   rw[Nat.zero_add,List.nil_append] at hnA
   replace hoB:=hoB.kept hgr (own_ne hoB hoA (by decide))
   replace hB:=hB.grown hgr hB.size (fun k hk=>by cases hk;exact hgeA)
   replace hoA:=hnA
   clear hgr
   refine hK.out _ _ (HSK.out _ hB) (fun hHeld=>?_)
   clear hK K hHeld
   try simp only[lay]
   refine wpAnyH_ready (rs:=[20]) (by kernel_rfl) (by simp) ?_
   refine(AllReadyH.cons rfl (fun K hK=>?_) AllReadyH.nil)
   refine Eq.mpr (if_pos (by rfl)) ?_
   obtain⟨_,_,hvB,hslB⟩:=HSB.out _ hB
   simp only[Value.slice.injEq] at hvB
   obtain⟨rfl,_,rfl⟩:=hvB
   refine wp_app _ _ _ 38 rfl 81 ie (.agg #[.int .u16 0,.int .u16 0]) 2 4 W1.heap.size Tryz.underlying38 he he0 he1 he2 rfl (by decide) _ 0 [] rfl hoB oq S.out.length oc (evC S.out) rfl (by rw[evC_length];omega) hslB (one_evs _) (by simp only[maxLen];omega) (by omega) hB.size ?_
   intro vB V4 hnB hgr
   rw[Nat.zero_add,List.nil_append] at hnB
   replace hoA:=hoA.kept hgr (own_ne hoA hoB (by decide))
   replace hB:=hB.grown hgr hB.size (fun k hk=>by cases hk;exact hgeB)
   replace hoB:=hnB
   clear hgr
   refine hK.out _ _ (HSK.out _ hB) (fun hHeld=>?_)
   clear hK K hHeld
   try simp only[lay]
   obtain⟨pa,ca,hva,_⟩:=Sl.own hoA
   obtain⟨pb,cb,hvb,_⟩:=Sl.own hoB
   subst hva hvb
   have hbk:=block_next HBx1.out hB
   have hfa:From W1.heap.size pa:=fun g hg=>by subst hg;exact(hoA.lt g rfl).1
   have hfb:From W1.heap.size pb:=fun g hg=>by subst hg;exact(hoB.lt g rfl).1
   have hsn:SnH V4 (snapP S) pa pb:=⟨(by obtain⟨p,c,h1,h2⟩:=Sl.own hoA;cases h1;exact h2),(by obtain⟨p,c,h1,h2⟩:=Sl.own hoB;cases h1;exact h2),own_typ hoA,own_typ hoB⟩
   have hcap:(snapP S).stk.length≤ca:=by show((List.range S.sp).map S.stk).length≤ca;rw[List.length_map,List.length_range];exact own_cap hoA
   have HEnd:=Lib.hid (And.intro (hsn.set1 hfa hfb (a:=n) (by rw[HSz1.out];omega) (snQ S pa ca pb cb)) (And.intro hcap (And.intro (show From n pa from fun g hg=>by have:=hfa g hg;rw[HSz1.out] at this;omega) (show From n pb from fun g hg=>by have:=hfb g hg;rw[HSz1.out] at this;omega))))
   have HBE:=Lib.hid (below_setRow (HM1.out.bel.trans (hB.mono HM1.out.bel.size)) (show E.w0.heap.size≤n by exact HLo.out) (snQ S pa ca pb cb))
   have HRw:=Lib.hid (setRow_heap V4 n _ (snQ S pa ca pb cb) 40 (0,0) hbk)
   have HBk:=Lib.hid hbk
   have HBm:=Lib.hid (show(∃ q,(V4.setRow n (snQ S pa ca pb cb)).heap[E.b]? =some (.cells (mqA { E with q:=q } S (.slice sp S.sp sc) (.slice oq S.out.length oc) k i) 96 (0,0)))∧∀ g,g < n→g≠E.b→(V4.setRow n (snQ S pa ca pb cb)).heap[g]? =w.heap[g]? from⟨⟨_,(setRow_other _ _ _ _ (show E.b≠n from Ne.symm HNe.out)).trans (block_next HM1.out.blk hB)⟩,fun g hg he=>(setRow_other _ _ _ _ (by omega)).trans ((hB.block g (by rw[HSz1.out];omega)).trans (HG1.out g hg he))⟩)
   have hSf:=HSK.out _ hB
   have HSf:=Lib.hid (show(V4.setRow n (snQ S pa ca pb cb)).rangeAt E.b 7 (stC S)∧(V4.setRow n (snQ S pa ca pb cb)).rangeAt E.rb 0 (ramL S)∧(V4.setRow n (snQ S pa ca pb cb)).cell? ⟨E.b,23,none⟩=some (.slice (some ⟨E.rb,0,none⟩) 8192 8192)∧(V4.setRow n (snQ S pa ca pb cb)).cell? ⟨E.b,24,none⟩=some (.slice sp S.sp sc)∧(V4.setRow n (snQ S pa ca pb cb)).cell? ⟨E.b,25,none⟩=some (.slice oq S.out.length oc) from
    ⟨fun j v hv=>(cell_setRow_other _ _ _ _ (show E.b≠n from Ne.symm HNe.out)).trans (hSf.1 j v hv),fun j v hv=>(cell_setRow_other _ _ _ _ (show E.rb≠n from Ne.symm HNr.out)).trans (hSf.2.1 j v hv),(cell_setRow_other _ _ _ _ (show E.b≠n from Ne.symm HNe.out)).trans hSf.2.2.1,(cell_setRow_other _ _ _ _ (show E.b≠n from Ne.symm HNe.out)).trans hSf.2.2.2.1,(cell_setRow_other _ _ _ _ (show E.b≠n from Ne.symm HNe.out)).trans hSf.2.2.2.2⟩)
   clear hfa hfb hsn hcap hoA hoB hbk
   refine rd1 21 rfl (fun K hK=>?_)
   refine Eq.mpr (if_pos (by rfl)) ?_
   refine wp_build_some 40 _ rfl [(0,.agg (stC S).toArray),(1,.string (u8L S.ram 8192)),(2,.slice pa S.sp ca),(3,.slice pb S.out.length cb)] (by simp only[List.map_toArray,List.map_cons,List.map_nil];rfl) (built_sq S pa ca pb cb) ?_
   refine hK.out _ _ hSf (fun hHeld=>?_)
   clear hK K
   try simp only[lay]
   refine rd1 22 rfl (fun K hK=>?_)
   refine Eq.mpr (if_pos (by rfl)) ?_
   refine wp_store_row 40 _ _ rfl n (snQ S pa ca pb cb) rfl rfl 40 _ HBk.out infoSn (by rfl) (by simp[snQ,Value.oneCell']) ?_
   refine hK.out _ _ HSf.out (fun hHeld=>?_)
   clear hK K
   try simp only[lay]
   refine wpAnyH_done (by kernel_rfl) ?_ _
   go_wp2_with fail
   exact bodyPost_ret (v:= .agg (snQ S pa ca pb cb)) (results_cell_row rfl _ _ n 40 _ (0,0) _ rfl HRw.out Tryz.underlying40 rfl infoSn) rfl (by rw[HN.out];exact⟨SnEnd.of (c:=ca) (d:=cb) (by unfold snV snA snQ;show _=Ending.returned (.agg #[_,_,_,_,_,_,_,_,_,_,_,_,_,_,_,_,_,.slice pa ((List.range S.sp).map S.stk).length ca,_]);rw[List.length_map,List.length_range];rfl) HEnd.out.1 HEnd.out.2.2.1 HEnd.out.2.2.2 HEnd.out.2.1,HBE.out,HBm.out⟩)
 ·go_simp
  have hoB:=own_new V0 W1.heap.size 81 2 hB.size
  replace hB:=hB.alloc hB.size (.cells #[] 81)
  obtain⟨gB,hgB⟩:∃ g,V0.heap.size=g:=⟨_,rfl⟩
  have hgeB:W1.heap.size≤gB:=by rw[← hgB];exact(hoB.lt _ rfl).1
  rw[hgB] at hoB
  rw[hgB]
  obtain⟨V1,hV⟩:∃ X,V0.alloc (.cells #[] 81)=X:=⟨_,rfl⟩
  rw[hV] at hB hoB
  rw[hV]
  clear hV hgB
  refine hK.out _ _ (HSK.out _ hB) (fun hHeld=>?_)
  clear hK K hHeld
  try simp only[lay]
  refine wpAnyH_ready (rs:=[9]) (by kernel_rfl) (by simp) ?_
  refine(AllReadyH.cons rfl (fun K hK=>?_) AllReadyH.nil)
  go_simp
  have hoA:=own_new V1 W1.heap.size 29 1 hB.size
  replace hoB:=hoB.alloc (.cells #[] 29)
  replace hB:=hB.alloc hB.size (.cells #[] 29)
  obtain⟨gA,hgA⟩:∃ g,V1.heap.size=g:=⟨_,rfl⟩
  have hgeA:W1.heap.size≤gA:=by rw[← hgA];exact(hoA.lt _ rfl).1
  rw[hgA] at hoA
  rw[hgA]
  obtain⟨V2,hV⟩:∃ X,V1.alloc (.cells #[] 29)=X:=⟨_,rfl⟩
  rw[hV] at hB hoA hoB
  rw[hV]
  clear hV hgA
  refine hK.out _ _ (HSK.out _ hB) (fun hHeld=>?_)
  clear hK K hHeld
  try simp only[lay]
  refine wpAnyH_ready (rs:=[14]) (by kernel_rfl) (by simp) ?_
  refine(AllReadyH.cons rfl (fun K hK=>?_) AllReadyH.nil)
  refine Eq.mpr (if_pos (by rfl)) ?_
  have hsA:=HSA.out _ hB
  obtain⟨_,_,hvA,hslA⟩:=Sl.own hsA
  simp only[Value.slice.injEq] at hvA
  obtain⟨rfl,_,rfl⟩:=hvA
  refine wp_app _ _ _ 37 rfl 29 iu (.int .u16 0) 1 2 W1.heap.size Tryz.underlying37 hu hu0 hu1 hu2 rfl (by decide) _ 0 [] rfl hoA sp S.sp sc (stL S.stk S.sp) rfl (by rw[stL_len];omega) hslA (one_u16 _) (by simp only[maxLen];omega) (by omega) hB.size ?_
  intro vA V3 hnA hgr
  rw[Nat.zero_add,List.nil_append] at hnA
  replace hoB:=hoB.kept hgr (own_ne hoB hoA (by decide))
  replace hB:=hB.grown hgr hB.size (fun k hk=>by cases hk;exact hgeA)
  replace hoA:=hnA
  clear hgr
  refine hK.out _ _ (HSK.out _ hB) (fun hHeld=>?_)
  clear hK K hHeld
  try simp only[lay]
  refine wpAnyH_ready (rs:=[20]) (by kernel_rfl) (by simp) ?_
  refine(AllReadyH.cons rfl (fun K hK=>?_) AllReadyH.nil)
  refine Eq.mpr (if_pos (by rfl)) ?_
  obtain⟨_,_,hvB,hslB⟩:=HSB.out _ hB
  simp only[Value.slice.injEq] at hvB
  obtain⟨rfl,_,rfl⟩:=hvB
  refine wp_app _ _ _ 38 rfl 81 ie (.agg #[.int .u16 0,.int .u16 0]) 2 4 W1.heap.size Tryz.underlying38 he he0 he1 he2 rfl (by decide) _ 0 [] rfl hoB oq S.out.length oc (evC S.out) rfl (by rw[evC_length];omega) hslB (one_evs _) (by simp only[maxLen];omega) (by omega) hB.size ?_
  intro vB V4 hnB hgr
  rw[Nat.zero_add,List.nil_append] at hnB
  replace hoA:=hoA.kept hgr (own_ne hoA hoB (by decide))
  replace hB:=hB.grown hgr hB.size (fun k hk=>by cases hk;exact hgeB)
  replace hoB:=hnB
  clear hgr
  refine hK.out _ _ (HSK.out _ hB) (fun hHeld=>?_)
  clear hK K hHeld
  try simp only[lay]
  obtain⟨pa,ca,hva,_⟩:=Sl.own hoA
  obtain⟨pb,cb,hvb,_⟩:=Sl.own hoB
  subst hva hvb
  have hbk:=block_next HBx1.out hB
  have hfa:From W1.heap.size pa:=fun g hg=>by subst hg;exact(hoA.lt g rfl).1
  have hfb:From W1.heap.size pb:=fun g hg=>by subst hg;exact(hoB.lt g rfl).1
  have hsn:SnH V4 (snapP S) pa pb:=⟨(by obtain⟨p,c,h1,h2⟩:=Sl.own hoA;cases h1;exact h2),(by obtain⟨p,c,h1,h2⟩:=Sl.own hoB;cases h1;exact h2),own_typ hoA,own_typ hoB⟩
  have hcap:(snapP S).stk.length≤ca:=by show((List.range S.sp).map S.stk).length≤ca;rw[List.length_map,List.length_range];exact own_cap hoA
  have HEnd:=Lib.hid (And.intro (hsn.set1 hfa hfb (a:=n) (by rw[HSz1.out];omega) (snQ S pa ca pb cb)) (And.intro hcap (And.intro (show From n pa from fun g hg=>by have:=hfa g hg;rw[HSz1.out] at this;omega) (show From n pb from fun g hg=>by have:=hfb g hg;rw[HSz1.out] at this;omega))))
  have HBE:=Lib.hid (below_setRow (HM1.out.bel.trans (hB.mono HM1.out.bel.size)) (show E.w0.heap.size≤n by exact HLo.out) (snQ S pa ca pb cb))
  have HRw:=Lib.hid (setRow_heap V4 n _ (snQ S pa ca pb cb) 40 (0,0) hbk)
  have HBk:=Lib.hid hbk
  have HBm:=Lib.hid (show(∃ q,(V4.setRow n (snQ S pa ca pb cb)).heap[E.b]? =some (.cells (mqA { E with q:=q } S (.slice sp S.sp sc) (.slice oq S.out.length oc) k i) 96 (0,0)))∧∀ g,g < n→g≠E.b→(V4.setRow n (snQ S pa ca pb cb)).heap[g]? =w.heap[g]? from⟨⟨_,(setRow_other _ _ _ _ (show E.b≠n from Ne.symm HNe.out)).trans (block_next HM1.out.blk hB)⟩,fun g hg he=>(setRow_other _ _ _ _ (by omega)).trans ((hB.block g (by rw[HSz1.out];omega)).trans (HG1.out g hg he))⟩)
  have hSf:=HSK.out _ hB
  have HSf:=Lib.hid (show(V4.setRow n (snQ S pa ca pb cb)).rangeAt E.b 7 (stC S)∧(V4.setRow n (snQ S pa ca pb cb)).rangeAt E.rb 0 (ramL S)∧(V4.setRow n (snQ S pa ca pb cb)).cell? ⟨E.b,23,none⟩=some (.slice (some ⟨E.rb,0,none⟩) 8192 8192)∧(V4.setRow n (snQ S pa ca pb cb)).cell? ⟨E.b,24,none⟩=some (.slice sp S.sp sc)∧(V4.setRow n (snQ S pa ca pb cb)).cell? ⟨E.b,25,none⟩=some (.slice oq S.out.length oc) from
   ⟨fun j v hv=>(cell_setRow_other _ _ _ _ (show E.b≠n from Ne.symm HNe.out)).trans (hSf.1 j v hv),fun j v hv=>(cell_setRow_other _ _ _ _ (show E.rb≠n from Ne.symm HNr.out)).trans (hSf.2.1 j v hv),(cell_setRow_other _ _ _ _ (show E.b≠n from Ne.symm HNe.out)).trans hSf.2.2.1,(cell_setRow_other _ _ _ _ (show E.b≠n from Ne.symm HNe.out)).trans hSf.2.2.2.1,(cell_setRow_other _ _ _ _ (show E.b≠n from Ne.symm HNe.out)).trans hSf.2.2.2.2⟩)
  clear hfa hfb hsn hcap hoA hoB hbk
  refine rd1 21 rfl (fun K hK=>?_)
  refine Eq.mpr (if_pos (by rfl)) ?_
  refine wp_build_some 40 _ rfl [(0,.agg (stC S).toArray),(1,.string (u8L S.ram 8192)),(2,.slice pa S.sp ca),(3,.slice pb S.out.length cb)] (by simp only[List.map_toArray,List.map_cons,List.map_nil];rfl) (built_sq S pa ca pb cb) ?_
  refine hK.out _ _ hSf (fun hHeld=>?_)
  clear hK K
  try simp only[lay]
  refine rd1 22 rfl (fun K hK=>?_)
  refine Eq.mpr (if_pos (by rfl)) ?_
  refine wp_store_row 40 _ _ rfl n (snQ S pa ca pb cb) rfl rfl 40 _ HBk.out infoSn (by rfl) (by simp[snQ,Value.oneCell']) ?_
  refine hK.out _ _ HSf.out (fun hHeld=>?_)
  clear hK K
  try simp only[lay]
  refine wpAnyH_done (by kernel_rfl) ?_ _
  go_wp2_with fail
  exact bodyPost_ret (v:= .agg (snQ S pa ca pb cb)) (results_cell_row rfl _ _ n 40 _ (0,0) _ rfl HRw.out Tryz.underlying40 rfl infoSn) rfl (by rw[HN.out];exact⟨SnEnd.of (c:=ca) (d:=cb) (by unfold snV snA snQ;show _=Ending.returned (.agg #[_,_,_,_,_,_,_,_,_,_,_,_,_,_,_,_,_,.slice pa ((List.range S.sp).map S.stk).length ca,_]);rw[List.length_map,List.length_range];rfl) HEnd.out.1 HEnd.out.2.2.1 HEnd.out.2.2.2 HEnd.out.2.1,HBE.out,HBm.out⟩)
theorem snap_q (E:Qe) (sv ov:Value) (S:Ms) (d:Nat) (k i:Int) (w:World) (h:Mq E sv ov S d k i w) (hl:S.out.length≤1000000000):
  Calls Tryz.prog 38 #[.pointer (some ⟨E.b,0,none⟩)] w fun e w'=>SnEnd w.heap.size (snapP S) e w'∧Below E.w0.heap.size E.w0 w':=
 (snap_q' E sv ov S d k i w h hl).mono fun e w' h=>⟨h.1,h.2.1⟩
end Go.Proofs.YthkcloapiefggaaGreatDoor
