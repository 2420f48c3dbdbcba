import Derived.Test.YthkcloapiefggaaGreatDoorXsm
/- The examples that every law runs first. -/
namespace Go.Proofs.YthkcloapiefggaaGreatDoor
set_option linter.unusedVariables false
set_option linter.unusedSimpArgs false
set_option maxRecDepth 100000
set_option maxHeartbeats 1000000
open Go.ChangeShapes Go.WideShapes Go.RowKit
theorem infoIm':(Tryz.prog.info? 33).map (·.size)=some 5:=by kernel_rfl
def sA:ByteArray:=⟨#[48,1,5,33,18,2]⟩
def sB:ByteArray:=⟨#[145,0,7,1]⟩
def sC:ByteArray:=⟨#[17,3,17,3,17,3]⟩
def endA:Ms × Int × Int:=runP (oneI 0 sA) ⟨[],[]⟩ 100 (loadP (snapP (startS (oneI 0 sA))))
def endB:Ms × Int × Int:=runP (oneI 0 sB) ⟨[],[]⟩ 100 (loadP (snapP (startS (oneI 0 sB))))
def endC:Ms × Int × Int:=runP (oneI 0 sC) ⟨[],[]⟩ 100 (loadP (snapP (startS (oneI 0 sC))))
theorem facA:endA.2=(1,0)∧endA.1.r 1=5∧endA.1.pc=5∧endA.1.steps=2:=by
 have h:decide (endA.2=(1,0)∧endA.1.r 1=5∧endA.1.pc=5∧endA.1.steps=2)=true:=by kernel_rfl
 exact of_decide_eq_true h
theorem facB:endB.2=(6,0)∧endB.1.sp=0∧endB.1.out=[(7,0)]:=by
 have h:decide (endB.2=(6,0)∧endB.1.sp=0∧endB.1.out=[(7,0)])=true:=by kernel_rfl
 exact of_decide_eq_true h
theorem facC:endC.2=(5,0)∧endC.1.steps=2∧endC.1.r 3=0:=by
 have h:decide (endC.2=(5,0)∧endC.1.steps=2∧endC.1.r 3=0)=true:=by kernel_rfl
 exact of_decide_eq_true h
theorem oneI_ok (o:Nat) (s:ByteArray):(oneI o s).Ok:=⟨Int.le_refl 0,(show(0:Int) < 65536 by decide),Int.le_refl 0,(show(0:Int) < 65536 by decide),by intro b hb;simp[oneI] at hb;subst hb;rw[page_size];decide,by intro x hx;simp[oneI] at hx,by intro x hx;simp[oneI] at hx,(show 1≤1000000000 by decide),Nat.zero_le _,Nat.zero_le _⟩
def oneP (g:Nat):Pl:=⟨some ⟨g,0,none⟩,1,none,0,none,0⟩
theorem one_has {V:World} {g:Nat} (o:Nat) (s:ByteArray) (h:V.heap[g]? =some (.cells #[.string (pageB o s)] 9 (0,0))):Has V (oneP g) (oneI o s):=
 ⟨fun j x hx=>⟨g,rfl,block_cells h j x (by rw[← hx];simp[bankC,oneI])⟩,Sl.nil _ _,Sl.nil _ _⟩
theorem snap_ok {S:Ms} (h:S.Ok):(snapP S).Ok:=⟨h.r,h.pc,h.fp,h.f,h.bank,h.steps,h.inp,h.pol,fun x hx=>by
  obtain⟨j,hj,rfl⟩:=List.mem_map.1 hx
  exact h.stk j (by have:=List.mem_range.1 hj;have:=h.sp;omega),h.out⟩
theorem startS_ok (I:Im) (hI:I.Ok):(startS I).Ok:=loadP_ok (startX_ok I hI)
theorem st_one (g:Nat) (s:ByteArray) (U:World) (h:U.heap[g]? =some (.cells #[.string (pageB 0 s)] 9 (0,0))) (ht:TabF U):
  Calls Tryz.prog 29 #[.agg (imL (oneP g) (oneI 0 s)).toArray] U fun e w'=>SnEnd U.heap.size (snapP (startS (oneI 0 s))) e w'∧Below U.heap.size U w':=cstart_any (oneP g) (oneI 0 s) U (oneI_ok 0 s) (one_has 0 s h) ht
theorem ru_one (g:Nat) (s:ByteArray) (U:World) (p:Option Addr) (c:Nat) (q:Option Addr) (d:Nat) (h:U.heap[g]? =some (.cells #[.string (pageB 0 s)] 9 (0,0))) (ht:TabF U) (hs:SnH U (snapP (startS (oneI 0 s))) p q):
  Calls Tryz.prog 14 #[.agg (imL (oneP g) (oneI 0 s)).toArray,.agg #[.slice none 0 0,.slice none 0 0],snV (snapP (startS (oneI 0 s))) p c q d,.int .i64 100] U fun e w'=>RunEnd U.heap.size (snapP (runP (oneI 0 s) ⟨[],[]⟩ 100 (loadP (snapP (startS (oneI 0 s))))).1) (runP (oneI 0 s) ⟨[],[]⟩ 100 (loadP (snapP (startS (oneI 0 s))))).2.1 (runP (oneI 0 s) ⟨[],[]⟩ 100 (loadP (snapP (startS (oneI 0 s))))).2.2 e w'∧Below U.heap.size U w':=
 crun_any (oneP g) (oneI 0 s) ⟨[],[]⟩ none none 0 0 (snapP (startS (oneI 0 s))) p q c d 100 U (oneI_ok 0 s) ⟨by simp,by simp,by simp,by simp⟩ (snap_ok (startS_ok _ (oneI_ok 0 s))) (one_has 0 s h) (Sl.nil _ _).slo (Sl.nil _ _).slo hs ht ⟨by decide,by decide⟩ (show(0:Nat)+100≤1000000000 by decide)
set_option maxHeartbeats 100000000 in
theorem sanity_any (w:World) (ht:TabF w):Calls Tryz.prog 12 #[] w fun e w'=>e= .returned (.bool true)∧Below w.heap.size w w':=by
 have HTab:=Lib.hid ht
 have hpos:0 < w.heap.size:=by obtain⟨_,_,h⟩:=ht;exact lt_of_block h
 have HPos:=Lib.hid hpos
 have hb44:Tryz.prog.built 43 []=some #[.slice none 0 0,.slice none 0 0]:=by kernel_rfl
 clear ht hpos
 go_enter Tryz.func12,Tryz.ntmps12
 go_wp2_with fail
 refine(image_any sA _ (by decide)).mono ?_
 rintro e wA ⟨⟨gA,rfl,hg,hbk⟩,hb1⟩
 have hB:Below w.heap.size w (wA.alloc (.cells #[.slice (some ⟨gA,0,none⟩) 1 1,.int .u16 0,.int .u16 0,.slice none 0 0,.slice none 0 0] 33)):=((Below.refl w.heap.size w).trans (hb1.mono (Below.refl w.heap.size w).size)).alloc (Nat.le_trans (Below.refl w.heap.size w).size hb1.size) _
 have hBx:=heap_alloc_new wA (.cells #[.slice (some ⟨gA,0,none⟩) 1 1,.int .u16 0,.int .u16 0,.slice none 0 0,.slice none 0 0] 33)
 have hBk:=heap_old _ (.cells #[.slice (some ⟨gA,0,none⟩) 1 1,.int .u16 0,.int .u16 0,.slice none 0 0,.slice none 0 0] 33) _ hbk
 clear hb1 hg hbk
 go_upto_region 2 with fail
 obtain⟨WA,hW⟩:∃ W,wA.alloc (.cells #[.slice (some ⟨gA,0,none⟩) 1 1,.int .u16 0,.int .u16 0,.slice none 0 0,.slice none 0 0] 33)=W:=⟨_,rfl⟩
 rw[hW] at hB hBx hBk
 rw[hW]
 obtain⟨nA,hn⟩:∃ n,wA.heap.size=n:=⟨_,rfl⟩
 rw[hn] at hBx
 rw[hn]
 have HBA:=Lib.hid hB
 have HBxA:=Lib.hid hBx
 have HBkA:=Lib.hid hBk
 have HTbA:=Lib.hid (tabF_below HPos.out HTab.out hB)
 clear hB hBx hBk hW hn
 go_cut [2,3] (fun v2 v3 wx=>∃ a b p c q d,v2= .pointer (some ⟨a,0,none⟩)∧v3= .pointer (some ⟨b,0,none⟩)∧Hid (RunBx WA (snapP endA.1) endA.2.1 endA.2.2 a b p c q d wx))
 case first=>
  as_aux_lemma=>
   have HI:=Lib.hid (fun U (hU:Below WA.heap.size WA U)=>(show U.rangeAt nA 0 (imL (oneP gA) (oneI 0 sA)) from range_at (block_next HBxA.out hU) _ (fun j v hv=>by rw[← hv];simp[imL,oneP,oneI])))
   have HSt:=Lib.hid (fun U (hU:Below WA.heap.size WA U)=>st_one gA sA U (block_next HBkA.out hU) (tabF_below (Nat.lt_of_lt_of_le HPos.out HBA.out.size) HTbA.out hU))
   have HRu:=Lib.hid (fun U p c q d (hU:Below WA.heap.size WA U) (hs:SnH U (snapP (startS (oneI 0 sA))) p q)=>ru_one gA sA U p c q d (block_next HBkA.out hU) (tabF_below (Nat.lt_of_lt_of_le HPos.out HBA.out.size) HTbA.out hU) hs)
   have HT:=Lib.hid (Tr.start WA)
   refine wp_region_held_drew (S:=fun w'=>w'.rangeAt nA 0 (imL (oneP gA) (oneI 0 sA))) (by kernel_rfl) (HI.out _ HT.out.bel) (fun hHeld=>?_)
   obtain⟨wd,hwd⟩:∃ wd,WA.drew=wd:=⟨_,rfl⟩
   rw[hwd] at hHeld HT
   rw[hwd]
   clear hwd
   refine tk 0 _ rfl (yieldsIf_load_mid (by rfl) 33 _ rfl nA 0 rfl (imL (oneP gA) (oneI 0 sA)) _ (fun w hw=>hw) Tryz.underlying33 rfl infoIm') ?_
   refine tq 1 rfl ?_
   refine tk 2 _ rfl (yieldsIf_load_mid (by rfl) 33 _ rfl nA 0 rfl (imL (oneP gA) (oneI 0 sA)) _ (fun w hw=>hw) Tryz.underlying33 rfl infoIm') ?_
   refine wpAnyH_ready (rs:=[3,8,9]) (by kernel_rfl) (by simp) (AllReadyH.cons rfl (fun K hK=>?_) (AllReadyH.cons rfl (fun K hK=>?_) (AllReadyH.cons rfl (fun K hK=>?_) AllReadyH.nil)))
   clear hHeld
   go_simp
   go_at_call 29
   with_reducible refine(HSt.out _ HT.out.bel).mono ?_
   rintro e w6 ⟨⟨p0,c0,q0,d0,rfl,hs,_,_⟩,hb⟩
   have HT:=Lib.hid (HT.out.next hb)
   have HS:=Lib.hid hs
   clear hs hb
   go_wp2_with fail
   refine hK.out _ _ (HI.out _ HT.out.bel) (fun hHeld=>?_)
   clear hK K
   try simp only[lay]
   refine wpAnyH_ready (rs:=[4,8,9]) (by kernel_rfl) (by simp) (AllReadyH.cons rfl (fun K hK=>?_) (AllReadyH.cons rfl (fun K hK=>?_) (AllReadyH.cons rfl (fun K hK=>?_) AllReadyH.nil)))
   clear hHeld
   go_simp
   go_at_call 14
   with_reducible refine(HRu.out _ p0 c0 q0 d0 HT.out.bel HS.out).mono ?_
   rintro e w7 ⟨⟨p1,c1,q1,d1,rfl,hs,_,_⟩,hb⟩
   have HT:=Lib.hid (HT.out.next hb)
   have HS:=Lib.hid hs
   clear hs hb
   go_wp2_with fail
   refine hK.out _ _ (HI.out _ HT.out.bel) (fun hHeld=>?_)
   clear hK K
   try simp only[lay]
   refine tq 5 rfl ?_
   refine tq 6 rfl ?_
   refine tq 7 rfl ?_
   refine wpAnyH_ready (rs:=[8,9]) (by kernel_rfl) (by simp) (AllReadyH.cons rfl (fun K hK=>?_) (AllReadyH.cons rfl (fun K hK=>?_) AllReadyH.nil))
   clear hHeld
   go_simp
   have HT:=Lib.hid (HT.out.a8)
   try simp only[World.size_alloc] at HT
   have HS:=Lib.hid (HS.out.below ((Below.refl _ _).alloc (Nat.le_refl _) (.cells zS 40)))
   refine hK.out _ _ (HI.out _ HT.out.bel) (fun hHeld=>?_)
   clear hK K
   try simp only[lay]
   refine rd1 9 rfl (fun K hK=>?_)
   clear hHeld
   go_simp
   have HT:=Lib.hid (HT.out.a9)
   try simp only[World.size_alloc] at HT
   have HS:=Lib.hid (HS.out.below ((Below.refl _ _).alloc (Nat.le_refl _) (.cells #[.int .i64 0,.int .u16 0] 47)))
   refine hK.out _ _ (HI.out _ HT.out.bel) (fun hHeld=>?_)
   clear hK K
   try simp only[lay]
   refine end2 10 11 HT.out HS.out HI.out rfl rfl rfl rfl rfl rfl (by rfl) (by rfl) rfl rfl rfl rfl (by kernel_rfl) (by kernel_rfl) (by kernel_rfl) (fun hR=>?_)
   have HR:=Lib.hid hR
   clear hR hHeld
   go_wp2_with fail
   go_meet
   exact⟨_,_,_,_,_,_,rfl,rfl,HR⟩
   clear hHeld
   go_simp
   have HT:=Lib.hid (HT.out.a9)
   try simp only[World.size_alloc] at HT
   have HS:=Lib.hid (HS.out.below ((Below.refl _ _).alloc (Nat.le_refl _) (.cells #[.int .i64 0,.int .u16 0] 47)))
   refine hK.out _ _ (HI.out _ HT.out.bel) (fun hHeld=>?_)
   clear hK K
   try simp only[lay]
   refine rd1 8 rfl (fun K hK=>?_)
   clear hHeld
   go_simp
   have HT:=Lib.hid (HT.out.a8)
   try simp only[World.size_alloc] at HT
   have HS:=Lib.hid (HS.out.below ((Below.refl _ _).alloc (Nat.le_refl _) (.cells zS 40)))
   refine hK.out _ _ (HI.out _ HT.out.bel) (fun hHeld=>?_)
   clear hK K
   try simp only[lay]
   refine end2 10 11 HT.out HS.out HI.out rfl rfl rfl rfl rfl rfl (by rfl) (by rfl) rfl rfl rfl rfl (by kernel_rfl) (by kernel_rfl) (by kernel_rfl) (fun hR=>?_)
   have HR:=Lib.hid hR
   clear hR hHeld
   go_wp2_with fail
   go_meet
   exact⟨_,_,_,_,_,_,rfl,rfl,HR⟩
   clear hHeld
   go_simp
   have HT:=Lib.hid (HT.out.a8)
   try simp only[World.size_alloc] at HT
   have HS:=Lib.hid (HS.out.below ((Below.refl _ _).alloc (Nat.le_refl _) (.cells zS 40)))
   refine hK.out _ _ (HI.out _ HT.out.bel) (fun hHeld=>?_)
   clear hK K
   try simp only[lay]
   refine wpAnyH_ready (rs:=[4,9]) (by kernel_rfl) (by simp) (AllReadyH.cons rfl (fun K hK=>?_) (AllReadyH.cons rfl (fun K hK=>?_) AllReadyH.nil))
   clear hHeld
   go_simp
   go_at_call 14
   with_reducible refine(HRu.out _ p0 c0 q0 d0 HT.out.bel HS.out).mono ?_
   rintro e w7 ⟨⟨p1,c1,q1,d1,rfl,hs,_,_⟩,hb⟩
   have HT:=Lib.hid (HT.out.next hb)
   have HS:=Lib.hid hs
   clear hs hb
   go_wp2_with fail
   refine hK.out _ _ (HI.out _ HT.out.bel) (fun hHeld=>?_)
   clear hK K
   try simp only[lay]
   refine tq 5 rfl ?_
   refine tq 6 rfl ?_
   refine tq 7 rfl ?_
   refine rd1 9 rfl (fun K hK=>?_)
   clear hHeld
   go_simp
   have HT:=Lib.hid (HT.out.a9)
   try simp only[World.size_alloc] at HT
   have HS:=Lib.hid (HS.out.below ((Below.refl _ _).alloc (Nat.le_refl _) (.cells #[.int .i64 0,.int .u16 0] 47)))
   refine hK.out _ _ (HI.out _ HT.out.bel) (fun hHeld=>?_)
   clear hK K
   try simp only[lay]
   refine end2 10 11 HT.out HS.out HI.out rfl rfl rfl rfl rfl rfl (by rfl) (by rfl) rfl rfl rfl rfl (by kernel_rfl) (by kernel_rfl) (by kernel_rfl) (fun hR=>?_)
   have HR:=Lib.hid hR
   clear hR hHeld
   go_wp2_with fail
   go_meet
   exact⟨_,_,_,_,_,_,rfl,rfl,HR⟩
   clear hHeld
   go_simp
   have HT:=Lib.hid (HT.out.a9)
   try simp only[World.size_alloc] at HT
   have HS:=Lib.hid (HS.out.below ((Below.refl _ _).alloc (Nat.le_refl _) (.cells #[.int .i64 0,.int .u16 0] 47)))
   refine hK.out _ _ (HI.out _ HT.out.bel) (fun hHeld=>?_)
   clear hK K
   try simp only[lay]
   refine rd1 4 rfl (fun K hK=>?_)
   clear hHeld
   go_simp
   go_at_call 14
   with_reducible refine(HRu.out _ p0 c0 q0 d0 HT.out.bel HS.out).mono ?_
   rintro e w7 ⟨⟨p1,c1,q1,d1,rfl,hs,_,_⟩,hb⟩
   have HT:=Lib.hid (HT.out.next hb)
   have HS:=Lib.hid hs
   clear hs hb
   go_wp2_with fail
   refine hK.out _ _ (HI.out _ HT.out.bel) (fun hHeld=>?_)
   clear hK K
   try simp only[lay]
   refine tq 5 rfl ?_
   refine tq 6 rfl ?_
   refine tq 7 rfl ?_
   refine end2 10 11 HT.out HS.out HI.out rfl rfl rfl rfl rfl rfl (by rfl) (by rfl) rfl rfl rfl rfl (by kernel_rfl) (by kernel_rfl) (by kernel_rfl) (fun hR=>?_)
   have HR:=Lib.hid hR
   clear hR hHeld
   go_wp2_with fail
   go_meet
   exact⟨_,_,_,_,_,_,rfl,rfl,HR⟩
   clear hHeld
   go_simp
   have HT:=Lib.hid (HT.out.a9)
   try simp only[World.size_alloc] at HT
   have HS:=Lib.hid (HS.out.below ((Below.refl _ _).alloc (Nat.le_refl _) (.cells #[.int .i64 0,.int .u16 0] 47)))
   refine hK.out _ _ (HI.out _ HT.out.bel) (fun hHeld=>?_)
   clear hK K
   try simp only[lay]
   refine wpAnyH_ready (rs:=[4,8]) (by kernel_rfl) (by simp) (AllReadyH.cons rfl (fun K hK=>?_) (AllReadyH.cons rfl (fun K hK=>?_) AllReadyH.nil))
   clear hHeld
   go_simp
   go_at_call 14
   with_reducible refine(HRu.out _ p0 c0 q0 d0 HT.out.bel HS.out).mono ?_
   rintro e w7 ⟨⟨p1,c1,q1,d1,rfl,hs,_,_⟩,hb⟩
   have HT:=Lib.hid (HT.out.next hb)
   have HS:=Lib.hid hs
   clear hs hb
   go_wp2_with fail
   refine hK.out _ _ (HI.out _ HT.out.bel) (fun hHeld=>?_)
   clear hK K
   try simp only[lay]
   refine tq 5 rfl ?_
   refine tq 6 rfl ?_
   refine tq 7 rfl ?_
   refine rd1 8 rfl (fun K hK=>?_)
   clear hHeld
   go_simp
   have HT:=Lib.hid (HT.out.a8)
   try simp only[World.size_alloc] at HT
   have HS:=Lib.hid (HS.out.below ((Below.refl _ _).alloc (Nat.le_refl _) (.cells zS 40)))
   refine hK.out _ _ (HI.out _ HT.out.bel) (fun hHeld=>?_)
   clear hK K
   try simp only[lay]
   refine end2 10 11 HT.out HS.out HI.out rfl rfl rfl rfl rfl rfl (by rfl) (by rfl) rfl rfl rfl rfl (by kernel_rfl) (by kernel_rfl) (by kernel_rfl) (fun hR=>?_)
   have HR:=Lib.hid hR
   clear hR hHeld
   go_wp2_with fail
   go_meet
   exact⟨_,_,_,_,_,_,rfl,rfl,HR⟩
   clear hHeld
   go_simp
   have HT:=Lib.hid (HT.out.a8)
   try simp only[World.size_alloc] at HT
   have HS:=Lib.hid (HS.out.below ((Below.refl _ _).alloc (Nat.le_refl _) (.cells zS 40)))
   refine hK.out _ _ (HI.out _ HT.out.bel) (fun hHeld=>?_)
   clear hK K
   try simp only[lay]
   refine rd1 4 rfl (fun K hK=>?_)
   clear hHeld
   go_simp
   go_at_call 14
   with_reducible refine(HRu.out _ p0 c0 q0 d0 HT.out.bel HS.out).mono ?_
   rintro e w7 ⟨⟨p1,c1,q1,d1,rfl,hs,_,_⟩,hb⟩
   have HT:=Lib.hid (HT.out.next hb)
   have HS:=Lib.hid hs
   clear hs hb
   go_wp2_with fail
   refine hK.out _ _ (HI.out _ HT.out.bel) (fun hHeld=>?_)
   clear hK K
   try simp only[lay]
   refine tq 5 rfl ?_
   refine tq 6 rfl ?_
   refine tq 7 rfl ?_
   refine end2 10 11 HT.out HS.out HI.out rfl rfl rfl rfl rfl rfl (by rfl) (by rfl) rfl rfl rfl rfl (by kernel_rfl) (by kernel_rfl) (by kernel_rfl) (fun hR=>?_)
   have HR:=Lib.hid hR
   clear hR hHeld
   go_wp2_with fail
   go_meet
   exact⟨_,_,_,_,_,_,rfl,rfl,HR⟩
   clear hHeld
   go_simp
   have HT:=Lib.hid (HT.out.a8)
   try simp only[World.size_alloc] at HT
   refine hK.out _ _ (HI.out _ HT.out.bel) (fun hHeld=>?_)
   clear hK K
   try simp only[lay]
   refine wpAnyH_ready (rs:=[3,9]) (by kernel_rfl) (by simp) (AllReadyH.cons rfl (fun K hK=>?_) (AllReadyH.cons rfl (fun K hK=>?_) AllReadyH.nil))
   clear hHeld
   go_simp
   go_at_call 29
   with_reducible refine(HSt.out _ HT.out.bel).mono ?_
   rintro e w6 ⟨⟨p0,c0,q0,d0,rfl,hs,_,_⟩,hb⟩
   have HT:=Lib.hid (HT.out.next hb)
   have HS:=Lib.hid hs
   clear hs hb
   go_wp2_with fail
   refine hK.out _ _ (HI.out _ HT.out.bel) (fun hHeld=>?_)
   clear hK K
   try simp only[lay]
   refine wpAnyH_ready (rs:=[4,9]) (by kernel_rfl) (by simp) (AllReadyH.cons rfl (fun K hK=>?_) (AllReadyH.cons rfl (fun K hK=>?_) AllReadyH.nil))
   clear hHeld
   go_simp
   go_at_call 14
   with_reducible refine(HRu.out _ p0 c0 q0 d0 HT.out.bel HS.out).mono ?_
   rintro e w7 ⟨⟨p1,c1,q1,d1,rfl,hs,_,_⟩,hb⟩
   have HT:=Lib.hid (HT.out.next hb)
   have HS:=Lib.hid hs
   clear hs hb
   go_wp2_with fail
   refine hK.out _ _ (HI.out _ HT.out.bel) (fun hHeld=>?_)
   clear hK K
   try simp only[lay]
   refine tq 5 rfl ?_
   refine tq 6 rfl ?_
   refine tq 7 rfl ?_
   refine rd1 9 rfl (fun K hK=>?_)
   clear hHeld
   go_simp
   have HT:=Lib.hid (HT.out.a9)
   try simp only[World.size_alloc] at HT
   have HS:=Lib.hid (HS.out.below ((Below.refl _ _).alloc (Nat.le_refl _) (.cells #[.int .i64 0,.int .u16 0] 47)))
   refine hK.out _ _ (HI.out _ HT.out.bel) (fun hHeld=>?_)
   clear hK K
   try simp only[lay]
   refine end2 10 11 HT.out HS.out HI.out rfl rfl rfl rfl rfl rfl (by rfl) (by rfl) rfl rfl rfl rfl (by kernel_rfl) (by kernel_rfl) (by kernel_rfl) (fun hR=>?_)
   have HR:=Lib.hid hR
   clear hR hHeld
   go_wp2_with fail
   go_meet
   exact⟨_,_,_,_,_,_,rfl,rfl,HR⟩
   clear hHeld
   go_simp
   have HT:=Lib.hid (HT.out.a9)
   try simp only[World.size_alloc] at HT
   have HS:=Lib.hid (HS.out.below ((Below.refl _ _).alloc (Nat.le_refl _) (.cells #[.int .i64 0,.int .u16 0] 47)))
   refine hK.out _ _ (HI.out _ HT.out.bel) (fun hHeld=>?_)
   clear hK K
   try simp only[lay]
   refine rd1 4 rfl (fun K hK=>?_)
   clear hHeld
   go_simp
   go_at_call 14
   with_reducible refine(HRu.out _ p0 c0 q0 d0 HT.out.bel HS.out).mono ?_
   rintro e w7 ⟨⟨p1,c1,q1,d1,rfl,hs,_,_⟩,hb⟩
   have HT:=Lib.hid (HT.out.next hb)
   have HS:=Lib.hid hs
   clear hs hb
   go_wp2_with fail
   refine hK.out _ _ (HI.out _ HT.out.bel) (fun hHeld=>?_)
   clear hK K
   try simp only[lay]
   refine tq 5 rfl ?_
   refine tq 6 rfl ?_
   refine tq 7 rfl ?_
   refine end2 10 11 HT.out HS.out HI.out rfl rfl rfl rfl rfl rfl (by rfl) (by rfl) rfl rfl rfl rfl (by kernel_rfl) (by kernel_rfl) (by kernel_rfl) (fun hR=>?_)
   have HR:=Lib.hid hR
   clear hR hHeld
   go_wp2_with fail
   go_meet
   exact⟨_,_,_,_,_,_,rfl,rfl,HR⟩
   clear hHeld
   go_simp
   have HT:=Lib.hid (HT.out.a9)
   try simp only[World.size_alloc] at HT
   refine hK.out _ _ (HI.out _ HT.out.bel) (fun hHeld=>?_)
   clear hK K
   try simp only[lay]
   refine rd1 3 rfl (fun K hK=>?_)
   clear hHeld
   go_simp
   go_at_call 29
   with_reducible refine(HSt.out _ HT.out.bel).mono ?_
   rintro e w6 ⟨⟨p0,c0,q0,d0,rfl,hs,_,_⟩,hb⟩
   have HT:=Lib.hid (HT.out.next hb)
   have HS:=Lib.hid hs
   clear hs hb
   go_wp2_with fail
   refine hK.out _ _ (HI.out _ HT.out.bel) (fun hHeld=>?_)
   clear hK K
   try simp only[lay]
   refine rd1 4 rfl (fun K hK=>?_)
   clear hHeld
   go_simp
   go_at_call 14
   with_reducible refine(HRu.out _ p0 c0 q0 d0 HT.out.bel HS.out).mono ?_
   rintro e w7 ⟨⟨p1,c1,q1,d1,rfl,hs,_,_⟩,hb⟩
   have HT:=Lib.hid (HT.out.next hb)
   have HS:=Lib.hid hs
   clear hs hb
   go_wp2_with fail
   refine hK.out _ _ (HI.out _ HT.out.bel) (fun hHeld=>?_)
   clear hK K
   try simp only[lay]
   refine tq 5 rfl ?_
   refine tq 6 rfl ?_
   refine tq 7 rfl ?_
   refine end2 10 11 HT.out HS.out HI.out rfl rfl rfl rfl rfl rfl (by rfl) (by rfl) rfl rfl rfl rfl (by kernel_rfl) (by kernel_rfl) (by kernel_rfl) (fun hR=>?_)
   have HR:=Lib.hid hR
   clear hR hHeld
   go_wp2_with fail
   go_meet
   exact⟨_,_,_,_,_,_,rfl,rfl,HR⟩
   clear hHeld
   go_simp
   have HT:=Lib.hid (HT.out.a9)
   try simp only[World.size_alloc] at HT
   refine hK.out _ _ (HI.out _ HT.out.bel) (fun hHeld=>?_)
   clear hK K
   try simp only[lay]
   refine wpAnyH_ready (rs:=[3,8]) (by kernel_rfl) (by simp) (AllReadyH.cons rfl (fun K hK=>?_) (AllReadyH.cons rfl (fun K hK=>?_) AllReadyH.nil))
   clear hHeld
   go_simp
   go_at_call 29
   with_reducible refine(HSt.out _ HT.out.bel).mono ?_
   rintro e w6 ⟨⟨p0,c0,q0,d0,rfl,hs,_,_⟩,hb⟩
   have HT:=Lib.hid (HT.out.next hb)
   have HS:=Lib.hid hs
   clear hs hb
   go_wp2_with fail
   refine hK.out _ _ (HI.out _ HT.out.bel) (fun hHeld=>?_)
   clear hK K
   try simp only[lay]
   refine wpAnyH_ready (rs:=[4,8]) (by kernel_rfl) (by simp) (AllReadyH.cons rfl (fun K hK=>?_) (AllReadyH.cons rfl (fun K hK=>?_) AllReadyH.nil))
   clear hHeld
   go_simp
   go_at_call 14
   with_reducible refine(HRu.out _ p0 c0 q0 d0 HT.out.bel HS.out).mono ?_
   rintro e w7 ⟨⟨p1,c1,q1,d1,rfl,hs,_,_⟩,hb⟩
   have HT:=Lib.hid (HT.out.next hb)
   have HS:=Lib.hid hs
   clear hs hb
   go_wp2_with fail
   refine hK.out _ _ (HI.out _ HT.out.bel) (fun hHeld=>?_)
   clear hK K
   try simp only[lay]
   refine tq 5 rfl ?_
   refine tq 6 rfl ?_
   refine tq 7 rfl ?_
   refine rd1 8 rfl (fun K hK=>?_)
   clear hHeld
   go_simp
   have HT:=Lib.hid (HT.out.a8)
   try simp only[World.size_alloc] at HT
   have HS:=Lib.hid (HS.out.below ((Below.refl _ _).alloc (Nat.le_refl _) (.cells zS 40)))
   refine hK.out _ _ (HI.out _ HT.out.bel) (fun hHeld=>?_)
   clear hK K
   try simp only[lay]
   refine end2 10 11 HT.out HS.out HI.out rfl rfl rfl rfl rfl rfl (by rfl) (by rfl) rfl rfl rfl rfl (by kernel_rfl) (by kernel_rfl) (by kernel_rfl) (fun hR=>?_)
   have HR:=Lib.hid hR
   clear hR hHeld
   go_wp2_with fail
   go_meet
   exact⟨_,_,_,_,_,_,rfl,rfl,HR⟩
   clear hHeld
   go_simp
   have HT:=Lib.hid (HT.out.a8)
   try simp only[World.size_alloc] at HT
   have HS:=Lib.hid (HS.out.below ((Below.refl _ _).alloc (Nat.le_refl _) (.cells zS 40)))
   refine hK.out _ _ (HI.out _ HT.out.bel) (fun hHeld=>?_)
   clear hK K
   try simp only[lay]
   refine rd1 4 rfl (fun K hK=>?_)
   clear hHeld
   go_simp
   go_at_call 14
   with_reducible refine(HRu.out _ p0 c0 q0 d0 HT.out.bel HS.out).mono ?_
   rintro e w7 ⟨⟨p1,c1,q1,d1,rfl,hs,_,_⟩,hb⟩
   have HT:=Lib.hid (HT.out.next hb)
   have HS:=Lib.hid hs
   clear hs hb
   go_wp2_with fail
   refine hK.out _ _ (HI.out _ HT.out.bel) (fun hHeld=>?_)
   clear hK K
   try simp only[lay]
   refine tq 5 rfl ?_
   refine tq 6 rfl ?_
   refine tq 7 rfl ?_
   refine end2 10 11 HT.out HS.out HI.out rfl rfl rfl rfl rfl rfl (by rfl) (by rfl) rfl rfl rfl rfl (by kernel_rfl) (by kernel_rfl) (by kernel_rfl) (fun hR=>?_)
   have HR:=Lib.hid hR
   clear hR hHeld
   go_wp2_with fail
   go_meet
   exact⟨_,_,_,_,_,_,rfl,rfl,HR⟩
   clear hHeld
   go_simp
   have HT:=Lib.hid (HT.out.a8)
   try simp only[World.size_alloc] at HT
   refine hK.out _ _ (HI.out _ HT.out.bel) (fun hHeld=>?_)
   clear hK K
   try simp only[lay]
   refine rd1 3 rfl (fun K hK=>?_)
   clear hHeld
   go_simp
   go_at_call 29
   with_reducible refine(HSt.out _ HT.out.bel).mono ?_
   rintro e w6 ⟨⟨p0,c0,q0,d0,rfl,hs,_,_⟩,hb⟩
   have HT:=Lib.hid (HT.out.next hb)
   have HS:=Lib.hid hs
   clear hs hb
   go_wp2_with fail
   refine hK.out _ _ (HI.out _ HT.out.bel) (fun hHeld=>?_)
   clear hK K
   try simp only[lay]
   refine rd1 4 rfl (fun K hK=>?_)
   clear hHeld
   go_simp
   go_at_call 14
   with_reducible refine(HRu.out _ p0 c0 q0 d0 HT.out.bel HS.out).mono ?_
   rintro e w7 ⟨⟨p1,c1,q1,d1,rfl,hs,_,_⟩,hb⟩
   have HT:=Lib.hid (HT.out.next hb)
   have HS:=Lib.hid hs
   clear hs hb
   go_wp2_with fail
   refine hK.out _ _ (HI.out _ HT.out.bel) (fun hHeld=>?_)
   clear hK K
   try simp only[lay]
   refine tq 5 rfl ?_
   refine tq 6 rfl ?_
   refine tq 7 rfl ?_
   refine end2 10 11 HT.out HS.out HI.out rfl rfl rfl rfl rfl rfl (by rfl) (by rfl) rfl rfl rfl rfl (by kernel_rfl) (by kernel_rfl) (by kernel_rfl) (fun hR=>?_)
   have HR:=Lib.hid hR
   clear hR hHeld
   go_wp2_with fail
   go_meet
   exact⟨_,_,_,_,_,_,rfl,rfl,HR⟩
 case rest=>
 obtain⟨aA,bA,pA,cA,qA,dA,rfl,rfl,HRA⟩:=hcut
 obtain⟨VA,hV⟩:∃ V,V=wc:=⟨_,rfl⟩
 subst hV
 go_wp2_with fail
 refine(image_any sB _ (by decide)).mono ?_
 rintro e wB ⟨⟨gB,rfl,hg,hbk⟩,hb1⟩
 have hB:Below w.heap.size w (wB.alloc (.cells #[.slice (some ⟨gB,0,none⟩) 1 1,.int .u16 0,.int .u16 0,.slice none 0 0,.slice none 0 0] 33)):=((HBA.out.trans (HRA.out.bel.mono HBA.out.size)).trans (hb1.mono (HBA.out.trans (HRA.out.bel.mono HBA.out.size)).size)).alloc (Nat.le_trans (HBA.out.trans (HRA.out.bel.mono HBA.out.size)).size hb1.size) _
 have hBx:=heap_alloc_new wB (.cells #[.slice (some ⟨gB,0,none⟩) 1 1,.int .u16 0,.int .u16 0,.slice none 0 0,.slice none 0 0] 33)
 have hBk:=heap_old _ (.cells #[.slice (some ⟨gB,0,none⟩) 1 1,.int .u16 0,.int .u16 0,.slice none 0 0,.slice none 0 0] 33) _ hbk
 have hRA:=(HRA.out.next hb1).next ((Below.refl _ _).alloc (Nat.le_refl _) (.cells #[.slice (some ⟨gB,0,none⟩) 1 1,.int .u16 0,.int .u16 0,.slice none 0 0,.slice none 0 0] 33))
 clear hb1 hg hbk
 go_upto_region 4 with fail
 obtain⟨WB,hW⟩:∃ W,wB.alloc (.cells #[.slice (some ⟨gB,0,none⟩) 1 1,.int .u16 0,.int .u16 0,.slice none 0 0,.slice none 0 0] 33)=W:=⟨_,rfl⟩
 rw[hW] at hB hBx hBk hRA
 rw[hW]
 obtain⟨nB,hn⟩:∃ n,wB.heap.size=n:=⟨_,rfl⟩
 rw[hn] at hBx
 rw[hn]
 have HBB:=Lib.hid hB
 have HBxB:=Lib.hid hBx
 have HBkB:=Lib.hid hBk
 have HTbB:=Lib.hid (tabF_below HPos.out HTab.out hB)
 have HRA:=Lib.hid hRA
 clear hRA
 clear hB hBx hBk hW hn
 go_cut [5,6] (fun v2 v3 wx=>∃ a b p c q d,v2= .pointer (some ⟨a,0,none⟩)∧v3= .pointer (some ⟨b,0,none⟩)∧Hid (RunBx WB (snapP endB.1) endB.2.1 endB.2.2 a b p c q d wx))
 case first=>
  as_aux_lemma=>
   have HI:=Lib.hid (fun U (hU:Below WB.heap.size WB U)=>(show U.rangeAt nB 0 (imL (oneP gB) (oneI 0 sB)) from range_at (block_next HBxB.out hU) _ (fun j v hv=>by rw[← hv];simp[imL,oneP,oneI])))
   have HSt:=Lib.hid (fun U (hU:Below WB.heap.size WB U)=>st_one gB sB U (block_next HBkB.out hU) (tabF_below (Nat.lt_of_lt_of_le HPos.out HBB.out.size) HTbB.out hU))
   have HRu:=Lib.hid (fun U p c q d (hU:Below WB.heap.size WB U) (hs:SnH U (snapP (startS (oneI 0 sB))) p q)=>ru_one gB sB U p c q d (block_next HBkB.out hU) (tabF_below (Nat.lt_of_lt_of_le HPos.out HBB.out.size) HTbB.out hU) hs)
   have HT:=Lib.hid (Tr.start WB)
   refine wp_region_held_drew (S:=fun w'=>w'.rangeAt nB 0 (imL (oneP gB) (oneI 0 sB))) (by kernel_rfl) (HI.out _ HT.out.bel) (fun hHeld=>?_)
   obtain⟨wd,hwd⟩:∃ wd,WB.drew=wd:=⟨_,rfl⟩
   rw[hwd] at hHeld HT
   rw[hwd]
   clear hwd
   refine tk 0 _ rfl (yieldsIf_load_mid (by rfl) 33 _ rfl nB 0 rfl (imL (oneP gB) (oneI 0 sB)) _ (fun w hw=>hw) Tryz.underlying33 rfl infoIm') ?_
   refine tq 1 rfl ?_
   refine tk 2 _ rfl (yieldsIf_load_mid (by rfl) 33 _ rfl nB 0 rfl (imL (oneP gB) (oneI 0 sB)) _ (fun w hw=>hw) Tryz.underlying33 rfl infoIm') ?_
   refine wpAnyH_ready (rs:=[3,8,9]) (by kernel_rfl) (by simp) (AllReadyH.cons rfl (fun K hK=>?_) (AllReadyH.cons rfl (fun K hK=>?_) (AllReadyH.cons rfl (fun K hK=>?_) AllReadyH.nil)))
   clear hHeld
   go_simp
   go_at_call 29
   with_reducible refine(HSt.out _ HT.out.bel).mono ?_
   rintro e w6 ⟨⟨p0,c0,q0,d0,rfl,hs,_,_⟩,hb⟩
   have HT:=Lib.hid (HT.out.next hb)
   have HS:=Lib.hid hs
   clear hs hb
   go_wp2_with fail
   refine hK.out _ _ (HI.out _ HT.out.bel) (fun hHeld=>?_)
   clear hK K
   try simp only[lay]
   refine wpAnyH_ready (rs:=[4,8,9]) (by kernel_rfl) (by simp) (AllReadyH.cons rfl (fun K hK=>?_) (AllReadyH.cons rfl (fun K hK=>?_) (AllReadyH.cons rfl (fun K hK=>?_) AllReadyH.nil)))
   clear hHeld
   go_simp
   go_at_call 14
   with_reducible refine(HRu.out _ p0 c0 q0 d0 HT.out.bel HS.out).mono ?_
   rintro e w7 ⟨⟨p1,c1,q1,d1,rfl,hs,_,_⟩,hb⟩
   have HT:=Lib.hid (HT.out.next hb)
   have HS:=Lib.hid hs
   clear hs hb
   go_wp2_with fail
   refine hK.out _ _ (HI.out _ HT.out.bel) (fun hHeld=>?_)
   clear hK K
   try simp only[lay]
   refine tq 5 rfl ?_
   refine tq 6 rfl ?_
   refine tq 7 rfl ?_
   refine wpAnyH_ready (rs:=[8,9]) (by kernel_rfl) (by simp) (AllReadyH.cons rfl (fun K hK=>?_) (AllReadyH.cons rfl (fun K hK=>?_) AllReadyH.nil))
   clear hHeld
   go_simp
   have HT:=Lib.hid (HT.out.a8)
   try simp only[World.size_alloc] at HT
   have HS:=Lib.hid (HS.out.below ((Below.refl _ _).alloc (Nat.le_refl _) (.cells zS 40)))
   refine hK.out _ _ (HI.out _ HT.out.bel) (fun hHeld=>?_)
   clear hK K
   try simp only[lay]
   refine rd1 9 rfl (fun K hK=>?_)
   clear hHeld
   go_simp
   have HT:=Lib.hid (HT.out.a9)
   try simp only[World.size_alloc] at HT
   have HS:=Lib.hid (HS.out.below ((Below.refl _ _).alloc (Nat.le_refl _) (.cells #[.int .i64 0,.int .u16 0] 47)))
   refine hK.out _ _ (HI.out _ HT.out.bel) (fun hHeld=>?_)
   clear hK K
   try simp only[lay]
   refine end2 10 11 HT.out HS.out HI.out rfl rfl rfl rfl rfl rfl (by rfl) (by rfl) rfl rfl rfl rfl (by kernel_rfl) (by kernel_rfl) (by kernel_rfl) (fun hR=>?_)
   have HR:=Lib.hid hR
   clear hR hHeld
   go_wp2_with fail
   go_meet
   exact⟨_,_,_,_,_,_,rfl,rfl,HR⟩
   clear hHeld
   go_simp
   have HT:=Lib.hid (HT.out.a9)
   try simp only[World.size_alloc] at HT
   have HS:=Lib.hid (HS.out.below ((Below.refl _ _).alloc (Nat.le_refl _) (.cells #[.int .i64 0,.int .u16 0] 47)))
   refine hK.out _ _ (HI.out _ HT.out.bel) (fun hHeld=>?_)
   clear hK K
   try simp only[lay]
   refine rd1 8 rfl (fun K hK=>?_)
   clear hHeld
   go_simp
   have HT:=Lib.hid (HT.out.a8)
   try simp only[World.size_alloc] at HT
   have HS:=Lib.hid (HS.out.below ((Below.refl _ _).alloc (Nat.le_refl _) (.cells zS 40)))
   refine hK.out _ _ (HI.out _ HT.out.bel) (fun hHeld=>?_)
   clear hK K
   try simp only[lay]
   refine end2 10 11 HT.out HS.out HI.out rfl rfl rfl rfl rfl rfl (by rfl) (by rfl) rfl rfl rfl rfl (by kernel_rfl) (by kernel_rfl) (by kernel_rfl) (fun hR=>?_)
   have HR:=Lib.hid hR
   clear hR hHeld
   go_wp2_with fail
   go_meet
   exact⟨_,_,_,_,_,_,rfl,rfl,HR⟩
   clear hHeld
   go_simp
   have HT:=Lib.hid (HT.out.a8)
   try simp only[World.size_alloc] at HT
   have HS:=Lib.hid (HS.out.below ((Below.refl _ _).alloc (Nat.le_refl _) (.cells zS 40)))
   refine hK.out _ _ (HI.out _ HT.out.bel) (fun hHeld=>?_)
   clear hK K
   try simp only[lay]
   refine wpAnyH_ready (rs:=[4,9]) (by kernel_rfl) (by simp) (AllReadyH.cons rfl (fun K hK=>?_) (AllReadyH.cons rfl (fun K hK=>?_) AllReadyH.nil))
   clear hHeld
   go_simp
   go_at_call 14
   with_reducible refine(HRu.out _ p0 c0 q0 d0 HT.out.bel HS.out).mono ?_
   rintro e w7 ⟨⟨p1,c1,q1,d1,rfl,hs,_,_⟩,hb⟩
   have HT:=Lib.hid (HT.out.next hb)
   have HS:=Lib.hid hs
   clear hs hb
   go_wp2_with fail
   refine hK.out _ _ (HI.out _ HT.out.bel) (fun hHeld=>?_)
   clear hK K
   try simp only[lay]
   refine tq 5 rfl ?_
   refine tq 6 rfl ?_
   refine tq 7 rfl ?_
   refine rd1 9 rfl (fun K hK=>?_)
   clear hHeld
   go_simp
   have HT:=Lib.hid (HT.out.a9)
   try simp only[World.size_alloc] at HT
   have HS:=Lib.hid (HS.out.below ((Below.refl _ _).alloc (Nat.le_refl _) (.cells #[.int .i64 0,.int .u16 0] 47)))
   refine hK.out _ _ (HI.out _ HT.out.bel) (fun hHeld=>?_)
   clear hK K
   try simp only[lay]
   refine end2 10 11 HT.out HS.out HI.out rfl rfl rfl rfl rfl rfl (by rfl) (by rfl) rfl rfl rfl rfl (by kernel_rfl) (by kernel_rfl) (by kernel_rfl) (fun hR=>?_)
   have HR:=Lib.hid hR
   clear hR hHeld
   go_wp2_with fail
   go_meet
   exact⟨_,_,_,_,_,_,rfl,rfl,HR⟩
   clear hHeld
   go_simp
   have HT:=Lib.hid (HT.out.a9)
   try simp only[World.size_alloc] at HT
   have HS:=Lib.hid (HS.out.below ((Below.refl _ _).alloc (Nat.le_refl _) (.cells #[.int .i64 0,.int .u16 0] 47)))
   refine hK.out _ _ (HI.out _ HT.out.bel) (fun hHeld=>?_)
   clear hK K
   try simp only[lay]
   refine rd1 4 rfl (fun K hK=>?_)
   clear hHeld
   go_simp
   go_at_call 14
   with_reducible refine(HRu.out _ p0 c0 q0 d0 HT.out.bel HS.out).mono ?_
   rintro e w7 ⟨⟨p1,c1,q1,d1,rfl,hs,_,_⟩,hb⟩
   have HT:=Lib.hid (HT.out.next hb)
   have HS:=Lib.hid hs
   clear hs hb
   go_wp2_with fail
   refine hK.out _ _ (HI.out _ HT.out.bel) (fun hHeld=>?_)
   clear hK K
   try simp only[lay]
   refine tq 5 rfl ?_
   refine tq 6 rfl ?_
   refine tq 7 rfl ?_
   refine end2 10 11 HT.out HS.out HI.out rfl rfl rfl rfl rfl rfl (by rfl) (by rfl) rfl rfl rfl rfl (by kernel_rfl) (by kernel_rfl) (by kernel_rfl) (fun hR=>?_)
   have HR:=Lib.hid hR
   clear hR hHeld
   go_wp2_with fail
   go_meet
   exact⟨_,_,_,_,_,_,rfl,rfl,HR⟩
   clear hHeld
   go_simp
   have HT:=Lib.hid (HT.out.a9)
   try simp only[World.size_alloc] at HT
   have HS:=Lib.hid (HS.out.below ((Below.refl _ _).alloc (Nat.le_refl _) (.cells #[.int .i64 0,.int .u16 0] 47)))
   refine hK.out _ _ (HI.out _ HT.out.bel) (fun hHeld=>?_)
   clear hK K
   try simp only[lay]
   refine wpAnyH_ready (rs:=[4,8]) (by kernel_rfl) (by simp) (AllReadyH.cons rfl (fun K hK=>?_) (AllReadyH.cons rfl (fun K hK=>?_) AllReadyH.nil))
   clear hHeld
   go_simp
   go_at_call 14
   with_reducible refine(HRu.out _ p0 c0 q0 d0 HT.out.bel HS.out).mono ?_
   rintro e w7 ⟨⟨p1,c1,q1,d1,rfl,hs,_,_⟩,hb⟩
   have HT:=Lib.hid (HT.out.next hb)
   have HS:=Lib.hid hs
   clear hs hb
   go_wp2_with fail
   refine hK.out _ _ (HI.out _ HT.out.bel) (fun hHeld=>?_)
   clear hK K
   try simp only[lay]
   refine tq 5 rfl ?_
   refine tq 6 rfl ?_
   refine tq 7 rfl ?_
   refine rd1 8 rfl (fun K hK=>?_)
   clear hHeld
   go_simp
   have HT:=Lib.hid (HT.out.a8)
   try simp only[World.size_alloc] at HT
   have HS:=Lib.hid (HS.out.below ((Below.refl _ _).alloc (Nat.le_refl _) (.cells zS 40)))
   refine hK.out _ _ (HI.out _ HT.out.bel) (fun hHeld=>?_)
   clear hK K
   try simp only[lay]
   refine end2 10 11 HT.out HS.out HI.out rfl rfl rfl rfl rfl rfl (by rfl) (by rfl) rfl rfl rfl rfl (by kernel_rfl) (by kernel_rfl) (by kernel_rfl) (fun hR=>?_)
   have HR:=Lib.hid hR
   clear hR hHeld
   go_wp2_with fail
   go_meet
   exact⟨_,_,_,_,_,_,rfl,rfl,HR⟩
   clear hHeld
   go_simp
   have HT:=Lib.hid (HT.out.a8)
   try simp only[World.size_alloc] at HT
   have HS:=Lib.hid (HS.out.below ((Below.refl _ _).alloc (Nat.le_refl _) (.cells zS 40)))
   refine hK.out _ _ (HI.out _ HT.out.bel) (fun hHeld=>?_)
   clear hK K
   try simp only[lay]
   refine rd1 4 rfl (fun K hK=>?_)
   clear hHeld
   go_simp
   go_at_call 14
   with_reducible refine(HRu.out _ p0 c0 q0 d0 HT.out.bel HS.out).mono ?_
   rintro e w7 ⟨⟨p1,c1,q1,d1,rfl,hs,_,_⟩,hb⟩
   have HT:=Lib.hid (HT.out.next hb)
   have HS:=Lib.hid hs
   clear hs hb
   go_wp2_with fail
   refine hK.out _ _ (HI.out _ HT.out.bel) (fun hHeld=>?_)
   clear hK K
   try simp only[lay]
   refine tq 5 rfl ?_
   refine tq 6 rfl ?_
   refine tq 7 rfl ?_
   refine end2 10 11 HT.out HS.out HI.out rfl rfl rfl rfl rfl rfl (by rfl) (by rfl) rfl rfl rfl rfl (by kernel_rfl) (by kernel_rfl) (by kernel_rfl) (fun hR=>?_)
   have HR:=Lib.hid hR
   clear hR hHeld
   go_wp2_with fail
   go_meet
   exact⟨_,_,_,_,_,_,rfl,rfl,HR⟩
   clear hHeld
   go_simp
   have HT:=Lib.hid (HT.out.a8)
   try simp only[World.size_alloc] at HT
   refine hK.out _ _ (HI.out _ HT.out.bel) (fun hHeld=>?_)
   clear hK K
   try simp only[lay]
   refine wpAnyH_ready (rs:=[3,9]) (by kernel_rfl) (by simp) (AllReadyH.cons rfl (fun K hK=>?_) (AllReadyH.cons rfl (fun K hK=>?_) AllReadyH.nil))
   clear hHeld
   go_simp
   go_at_call 29
   with_reducible refine(HSt.out _ HT.out.bel).mono ?_
   rintro e w6 ⟨⟨p0,c0,q0,d0,rfl,hs,_,_⟩,hb⟩
   have HT:=Lib.hid (HT.out.next hb)
   have HS:=Lib.hid hs
   clear hs hb
   go_wp2_with fail
   refine hK.out _ _ (HI.out _ HT.out.bel) (fun hHeld=>?_)
   clear hK K
   try simp only[lay]
   refine wpAnyH_ready (rs:=[4,9]) (by kernel_rfl) (by simp) (AllReadyH.cons rfl (fun K hK=>?_) (AllReadyH.cons rfl (fun K hK=>?_) AllReadyH.nil))
   clear hHeld
   go_simp
   go_at_call 14
   with_reducible refine(HRu.out _ p0 c0 q0 d0 HT.out.bel HS.out).mono ?_
   rintro e w7 ⟨⟨p1,c1,q1,d1,rfl,hs,_,_⟩,hb⟩
   have HT:=Lib.hid (HT.out.next hb)
   have HS:=Lib.hid hs
   clear hs hb
   go_wp2_with fail
   refine hK.out _ _ (HI.out _ HT.out.bel) (fun hHeld=>?_)
   clear hK K
   try simp only[lay]
   refine tq 5 rfl ?_
   refine tq 6 rfl ?_
   refine tq 7 rfl ?_
   refine rd1 9 rfl (fun K hK=>?_)
   clear hHeld
   go_simp
   have HT:=Lib.hid (HT.out.a9)
   try simp only[World.size_alloc] at HT
   have HS:=Lib.hid (HS.out.below ((Below.refl _ _).alloc (Nat.le_refl _) (.cells #[.int .i64 0,.int .u16 0] 47)))
   refine hK.out _ _ (HI.out _ HT.out.bel) (fun hHeld=>?_)
   clear hK K
   try simp only[lay]
   refine end2 10 11 HT.out HS.out HI.out rfl rfl rfl rfl rfl rfl (by rfl) (by rfl) rfl rfl rfl rfl (by kernel_rfl) (by kernel_rfl) (by kernel_rfl) (fun hR=>?_)
   have HR:=Lib.hid hR
   clear hR hHeld
   go_wp2_with fail
   go_meet
   exact⟨_,_,_,_,_,_,rfl,rfl,HR⟩
   clear hHeld
   go_simp
   have HT:=Lib.hid (HT.out.a9)
   try simp only[World.size_alloc] at HT
   have HS:=Lib.hid (HS.out.below ((Below.refl _ _).alloc (Nat.le_refl _) (.cells #[.int .i64 0,.int .u16 0] 47)))
   refine hK.out _ _ (HI.out _ HT.out.bel) (fun hHeld=>?_)
   clear hK K
   try simp only[lay]
   refine rd1 4 rfl (fun K hK=>?_)
   clear hHeld
   go_simp
   go_at_call 14
   with_reducible refine(HRu.out _ p0 c0 q0 d0 HT.out.bel HS.out).mono ?_
   rintro e w7 ⟨⟨p1,c1,q1,d1,rfl,hs,_,_⟩,hb⟩
   have HT:=Lib.hid (HT.out.next hb)
   have HS:=Lib.hid hs
   clear hs hb
   go_wp2_with fail
   refine hK.out _ _ (HI.out _ HT.out.bel) (fun hHeld=>?_)
   clear hK K
   try simp only[lay]
   refine tq 5 rfl ?_
   refine tq 6 rfl ?_
   refine tq 7 rfl ?_
   refine end2 10 11 HT.out HS.out HI.out rfl rfl rfl rfl rfl rfl (by rfl) (by rfl) rfl rfl rfl rfl (by kernel_rfl) (by kernel_rfl) (by kernel_rfl) (fun hR=>?_)
   have HR:=Lib.hid hR
   clear hR hHeld
   go_wp2_with fail
   go_meet
   exact⟨_,_,_,_,_,_,rfl,rfl,HR⟩
   clear hHeld
   go_simp
   have HT:=Lib.hid (HT.out.a9)
   try simp only[World.size_alloc] at HT
   refine hK.out _ _ (HI.out _ HT.out.bel) (fun hHeld=>?_)
   clear hK K
   try simp only[lay]
   refine rd1 3 rfl (fun K hK=>?_)
   clear hHeld
   go_simp
   go_at_call 29
   with_reducible refine(HSt.out _ HT.out.bel).mono ?_
   rintro e w6 ⟨⟨p0,c0,q0,d0,rfl,hs,_,_⟩,hb⟩
   have HT:=Lib.hid (HT.out.next hb)
   have HS:=Lib.hid hs
   clear hs hb
   go_wp2_with fail
   refine hK.out _ _ (HI.out _ HT.out.bel) (fun hHeld=>?_)
   clear hK K
   try simp only[lay]
   refine rd1 4 rfl (fun K hK=>?_)
   clear hHeld
   go_simp
   go_at_call 14
   with_reducible refine(HRu.out _ p0 c0 q0 d0 HT.out.bel HS.out).mono ?_
   rintro e w7 ⟨⟨p1,c1,q1,d1,rfl,hs,_,_⟩,hb⟩
   have HT:=Lib.hid (HT.out.next hb)
   have HS:=Lib.hid hs
   clear hs hb
   go_wp2_with fail
   refine hK.out _ _ (HI.out _ HT.out.bel) (fun hHeld=>?_)
   clear hK K
   try simp only[lay]
   refine tq 5 rfl ?_
   refine tq 6 rfl ?_
   refine tq 7 rfl ?_
   refine end2 10 11 HT.out HS.out HI.out rfl rfl rfl rfl rfl rfl (by rfl) (by rfl) rfl rfl rfl rfl (by kernel_rfl) (by kernel_rfl) (by kernel_rfl) (fun hR=>?_)
   have HR:=Lib.hid hR
   clear hR hHeld
   go_wp2_with fail
   go_meet
   exact⟨_,_,_,_,_,_,rfl,rfl,HR⟩
   clear hHeld
   go_simp
   have HT:=Lib.hid (HT.out.a9)
   try simp only[World.size_alloc] at HT
   refine hK.out _ _ (HI.out _ HT.out.bel) (fun hHeld=>?_)
   clear hK K
   try simp only[lay]
   refine wpAnyH_ready (rs:=[3,8]) (by kernel_rfl) (by simp) (AllReadyH.cons rfl (fun K hK=>?_) (AllReadyH.cons rfl (fun K hK=>?_) AllReadyH.nil))
   clear hHeld
   go_simp
   go_at_call 29
   with_reducible refine(HSt.out _ HT.out.bel).mono ?_
   rintro e w6 ⟨⟨p0,c0,q0,d0,rfl,hs,_,_⟩,hb⟩
   have HT:=Lib.hid (HT.out.next hb)
   have HS:=Lib.hid hs
   clear hs hb
   go_wp2_with fail
   refine hK.out _ _ (HI.out _ HT.out.bel) (fun hHeld=>?_)
   clear hK K
   try simp only[lay]
   refine wpAnyH_ready (rs:=[4,8]) (by kernel_rfl) (by simp) (AllReadyH.cons rfl (fun K hK=>?_) (AllReadyH.cons rfl (fun K hK=>?_) AllReadyH.nil))
   clear hHeld
   go_simp
   go_at_call 14
   with_reducible refine(HRu.out _ p0 c0 q0 d0 HT.out.bel HS.out).mono ?_
   rintro e w7 ⟨⟨p1,c1,q1,d1,rfl,hs,_,_⟩,hb⟩
   have HT:=Lib.hid (HT.out.next hb)
   have HS:=Lib.hid hs
   clear hs hb
   go_wp2_with fail
   refine hK.out _ _ (HI.out _ HT.out.bel) (fun hHeld=>?_)
   clear hK K
   try simp only[lay]
   refine tq 5 rfl ?_
   refine tq 6 rfl ?_
   refine tq 7 rfl ?_
   refine rd1 8 rfl (fun K hK=>?_)
   clear hHeld
   go_simp
   have HT:=Lib.hid (HT.out.a8)
   try simp only[World.size_alloc] at HT
   have HS:=Lib.hid (HS.out.below ((Below.refl _ _).alloc (Nat.le_refl _) (.cells zS 40)))
   refine hK.out _ _ (HI.out _ HT.out.bel) (fun hHeld=>?_)
   clear hK K
   try simp only[lay]
   refine end2 10 11 HT.out HS.out HI.out rfl rfl rfl rfl rfl rfl (by rfl) (by rfl) rfl rfl rfl rfl (by kernel_rfl) (by kernel_rfl) (by kernel_rfl) (fun hR=>?_)
   have HR:=Lib.hid hR
   clear hR hHeld
   go_wp2_with fail
   go_meet
   exact⟨_,_,_,_,_,_,rfl,rfl,HR⟩
   clear hHeld
   go_simp
   have HT:=Lib.hid (HT.out.a8)
   try simp only[World.size_alloc] at HT
   have HS:=Lib.hid (HS.out.below ((Below.refl _ _).alloc (Nat.le_refl _) (.cells zS 40)))
   refine hK.out _ _ (HI.out _ HT.out.bel) (fun hHeld=>?_)
   clear hK K
   try simp only[lay]
   refine rd1 4 rfl (fun K hK=>?_)
   clear hHeld
   go_simp
   go_at_call 14
   with_reducible refine(HRu.out _ p0 c0 q0 d0 HT.out.bel HS.out).mono ?_
   rintro e w7 ⟨⟨p1,c1,q1,d1,rfl,hs,_,_⟩,hb⟩
   have HT:=Lib.hid (HT.out.next hb)
   have HS:=Lib.hid hs
   clear hs hb
   go_wp2_with fail
   refine hK.out _ _ (HI.out _ HT.out.bel) (fun hHeld=>?_)
   clear hK K
   try simp only[lay]
   refine tq 5 rfl ?_
   refine tq 6 rfl ?_
   refine tq 7 rfl ?_
   refine end2 10 11 HT.out HS.out HI.out rfl rfl rfl rfl rfl rfl (by rfl) (by rfl) rfl rfl rfl rfl (by kernel_rfl) (by kernel_rfl) (by kernel_rfl) (fun hR=>?_)
   have HR:=Lib.hid hR
   clear hR hHeld
   go_wp2_with fail
   go_meet
   exact⟨_,_,_,_,_,_,rfl,rfl,HR⟩
   clear hHeld
   go_simp
   have HT:=Lib.hid (HT.out.a8)
   try simp only[World.size_alloc] at HT
   refine hK.out _ _ (HI.out _ HT.out.bel) (fun hHeld=>?_)
   clear hK K
   try simp only[lay]
   refine rd1 3 rfl (fun K hK=>?_)
   clear hHeld
   go_simp
   go_at_call 29
   with_reducible refine(HSt.out _ HT.out.bel).mono ?_
   rintro e w6 ⟨⟨p0,c0,q0,d0,rfl,hs,_,_⟩,hb⟩
   have HT:=Lib.hid (HT.out.next hb)
   have HS:=Lib.hid hs
   clear hs hb
   go_wp2_with fail
   refine hK.out _ _ (HI.out _ HT.out.bel) (fun hHeld=>?_)
   clear hK K
   try simp only[lay]
   refine rd1 4 rfl (fun K hK=>?_)
   clear hHeld
   go_simp
   go_at_call 14
   with_reducible refine(HRu.out _ p0 c0 q0 d0 HT.out.bel HS.out).mono ?_
   rintro e w7 ⟨⟨p1,c1,q1,d1,rfl,hs,_,_⟩,hb⟩
   have HT:=Lib.hid (HT.out.next hb)
   have HS:=Lib.hid hs
   clear hs hb
   go_wp2_with fail
   refine hK.out _ _ (HI.out _ HT.out.bel) (fun hHeld=>?_)
   clear hK K
   try simp only[lay]
   refine tq 5 rfl ?_
   refine tq 6 rfl ?_
   refine tq 7 rfl ?_
   refine end2 10 11 HT.out HS.out HI.out rfl rfl rfl rfl rfl rfl (by rfl) (by rfl) rfl rfl rfl rfl (by kernel_rfl) (by kernel_rfl) (by kernel_rfl) (fun hR=>?_)
   have HR:=Lib.hid hR
   clear hR hHeld
   go_wp2_with fail
   go_meet
   exact⟨_,_,_,_,_,_,rfl,rfl,HR⟩
 case rest=>
 obtain⟨aB,bB,pB,cB,qB,dB,rfl,rfl,HRB⟩:=hcut
 obtain⟨VB,hV⟩:∃ V,V=wc:=⟨_,rfl⟩
 subst hV
 have HRA:=Lib.hid (HRA.out.next HRB.out.bel)
 go_wp2_with fail
 refine(image_any sC _ (by decide)).mono ?_
 rintro e wC ⟨⟨gC,rfl,hg,hbk⟩,hb1⟩
 have hB:Below w.heap.size w (wC.alloc (.cells #[.slice (some ⟨gC,0,none⟩) 1 1,.int .u16 0,.int .u16 0,.slice none 0 0,.slice none 0 0] 33)):=((HBB.out.trans (HRB.out.bel.mono HBB.out.size)).trans (hb1.mono (HBB.out.trans (HRB.out.bel.mono HBB.out.size)).size)).alloc (Nat.le_trans (HBB.out.trans (HRB.out.bel.mono HBB.out.size)).size hb1.size) _
 have hBx:=heap_alloc_new wC (.cells #[.slice (some ⟨gC,0,none⟩) 1 1,.int .u16 0,.int .u16 0,.slice none 0 0,.slice none 0 0] 33)
 have hBk:=heap_old _ (.cells #[.slice (some ⟨gC,0,none⟩) 1 1,.int .u16 0,.int .u16 0,.slice none 0 0,.slice none 0 0] 33) _ hbk
 have hRA:=(HRA.out.next hb1).next ((Below.refl _ _).alloc (Nat.le_refl _) (.cells #[.slice (some ⟨gC,0,none⟩) 1 1,.int .u16 0,.int .u16 0,.slice none 0 0,.slice none 0 0] 33))
 have hRB:=(HRB.out.next hb1).next ((Below.refl _ _).alloc (Nat.le_refl _) (.cells #[.slice (some ⟨gC,0,none⟩) 1 1,.int .u16 0,.int .u16 0,.slice none 0 0,.slice none 0 0] 33))
 clear hb1 hg hbk
 go_upto_region 6 with fail
 obtain⟨WC,hW⟩:∃ W,wC.alloc (.cells #[.slice (some ⟨gC,0,none⟩) 1 1,.int .u16 0,.int .u16 0,.slice none 0 0,.slice none 0 0] 33)=W:=⟨_,rfl⟩
 rw[hW] at hB hBx hBk hRA hRB
 rw[hW]
 obtain⟨nC,hn⟩:∃ n,wC.heap.size=n:=⟨_,rfl⟩
 rw[hn] at hBx
 rw[hn]
 have HBC:=Lib.hid hB
 have HBxC:=Lib.hid hBx
 have HBkC:=Lib.hid hBk
 have HTbC:=Lib.hid (tabF_below HPos.out HTab.out hB)
 have HRA:=Lib.hid hRA
 clear hRA
 have HRB:=Lib.hid hRB
 clear hRB
 clear hB hBx hBk hW hn
 go_cut [8,9] (fun v2 v3 wx=>∃ a b p c q d,v2= .pointer (some ⟨a,0,none⟩)∧v3= .pointer (some ⟨b,0,none⟩)∧Hid (RunBx WC (snapP endC.1) endC.2.1 endC.2.2 a b p c q d wx))
 case first=>
  as_aux_lemma=>
   have HI:=Lib.hid (fun U (hU:Below WC.heap.size WC U)=>(show U.rangeAt nC 0 (imL (oneP gC) (oneI 0 sC)) from range_at (block_next HBxC.out hU) _ (fun j v hv=>by rw[← hv];simp[imL,oneP,oneI])))
   have HSt:=Lib.hid (fun U (hU:Below WC.heap.size WC U)=>st_one gC sC U (block_next HBkC.out hU) (tabF_below (Nat.lt_of_lt_of_le HPos.out HBC.out.size) HTbC.out hU))
   have HRu:=Lib.hid (fun U p c q d (hU:Below WC.heap.size WC U) (hs:SnH U (snapP (startS (oneI 0 sC))) p q)=>ru_one gC sC U p c q d (block_next HBkC.out hU) (tabF_below (Nat.lt_of_lt_of_le HPos.out HBC.out.size) HTbC.out hU) hs)
   have HT:=Lib.hid (Tr.start WC)
   refine wp_region_held_drew (S:=fun w'=>w'.rangeAt nC 0 (imL (oneP gC) (oneI 0 sC))) (by kernel_rfl) (HI.out _ HT.out.bel) (fun hHeld=>?_)
   obtain⟨wd,hwd⟩:∃ wd,WC.drew=wd:=⟨_,rfl⟩
   rw[hwd] at hHeld HT
   rw[hwd]
   clear hwd
   refine tk 0 _ rfl (yieldsIf_load_mid (by rfl) 33 _ rfl nC 0 rfl (imL (oneP gC) (oneI 0 sC)) _ (fun w hw=>hw) Tryz.underlying33 rfl infoIm') ?_
   refine tq 1 rfl ?_
   refine tk 2 _ rfl (yieldsIf_load_mid (by rfl) 33 _ rfl nC 0 rfl (imL (oneP gC) (oneI 0 sC)) _ (fun w hw=>hw) Tryz.underlying33 rfl infoIm') ?_
   refine wpAnyH_ready (rs:=[3,8,9]) (by kernel_rfl) (by simp) (AllReadyH.cons rfl (fun K hK=>?_) (AllReadyH.cons rfl (fun K hK=>?_) (AllReadyH.cons rfl (fun K hK=>?_) AllReadyH.nil)))
   clear hHeld
   go_simp
   go_at_call 29
   with_reducible refine(HSt.out _ HT.out.bel).mono ?_
   rintro e w6 ⟨⟨p0,c0,q0,d0,rfl,hs,_,_⟩,hb⟩
   have HT:=Lib.hid (HT.out.next hb)
   have HS:=Lib.hid hs
   clear hs hb
   go_wp2_with fail
   refine hK.out _ _ (HI.out _ HT.out.bel) (fun hHeld=>?_)
   clear hK K
   try simp only[lay]
   refine wpAnyH_ready (rs:=[4,8,9]) (by kernel_rfl) (by simp) (AllReadyH.cons rfl (fun K hK=>?_) (AllReadyH.cons rfl (fun K hK=>?_) (AllReadyH.cons rfl (fun K hK=>?_) AllReadyH.nil)))
   clear hHeld
   go_simp
   go_at_call 14
   with_reducible refine(HRu.out _ p0 c0 q0 d0 HT.out.bel HS.out).mono ?_
   rintro e w7 ⟨⟨p1,c1,q1,d1,rfl,hs,_,_⟩,hb⟩
   have HT:=Lib.hid (HT.out.next hb)
   have HS:=Lib.hid hs
   clear hs hb
   go_wp2_with fail
   refine hK.out _ _ (HI.out _ HT.out.bel) (fun hHeld=>?_)
   clear hK K
   try simp only[lay]
   refine tq 5 rfl ?_
   refine tq 6 rfl ?_
   refine tq 7 rfl ?_
   refine wpAnyH_ready (rs:=[8,9]) (by kernel_rfl) (by simp) (AllReadyH.cons rfl (fun K hK=>?_) (AllReadyH.cons rfl (fun K hK=>?_) AllReadyH.nil))
   clear hHeld
   go_simp
   have HT:=Lib.hid (HT.out.a8)
   try simp only[World.size_alloc] at HT
   have HS:=Lib.hid (HS.out.below ((Below.refl _ _).alloc (Nat.le_refl _) (.cells zS 40)))
   refine hK.out _ _ (HI.out _ HT.out.bel) (fun hHeld=>?_)
   clear hK K
   try simp only[lay]
   refine rd1 9 rfl (fun K hK=>?_)
   clear hHeld
   go_simp
   have HT:=Lib.hid (HT.out.a9)
   try simp only[World.size_alloc] at HT
   have HS:=Lib.hid (HS.out.below ((Below.refl _ _).alloc (Nat.le_refl _) (.cells #[.int .i64 0,.int .u16 0] 47)))
   refine hK.out _ _ (HI.out _ HT.out.bel) (fun hHeld=>?_)
   clear hK K
   try simp only[lay]
   refine end2 10 11 HT.out HS.out HI.out rfl rfl rfl rfl rfl rfl (by rfl) (by rfl) rfl rfl rfl rfl (by kernel_rfl) (by kernel_rfl) (by kernel_rfl) (fun hR=>?_)
   have HR:=Lib.hid hR
   clear hR hHeld
   go_wp2_with fail
   go_meet
   exact⟨_,_,_,_,_,_,rfl,rfl,HR⟩
   clear hHeld
   go_simp
   have HT:=Lib.hid (HT.out.a9)
   try simp only[World.size_alloc] at HT
   have HS:=Lib.hid (HS.out.below ((Below.refl _ _).alloc (Nat.le_refl _) (.cells #[.int .i64 0,.int .u16 0] 47)))
   refine hK.out _ _ (HI.out _ HT.out.bel) (fun hHeld=>?_)
   clear hK K
   try simp only[lay]
   refine rd1 8 rfl (fun K hK=>?_)
   clear hHeld
   go_simp
   have HT:=Lib.hid (HT.out.a8)
   try simp only[World.size_alloc] at HT
   have HS:=Lib.hid (HS.out.below ((Below.refl _ _).alloc (Nat.le_refl _) (.cells zS 40)))
   refine hK.out _ _ (HI.out _ HT.out.bel) (fun hHeld=>?_)
   clear hK K
   try simp only[lay]
   refine end2 10 11 HT.out HS.out HI.out rfl rfl rfl rfl rfl rfl (by rfl) (by rfl) rfl rfl rfl rfl (by kernel_rfl) (by kernel_rfl) (by kernel_rfl) (fun hR=>?_)
   have HR:=Lib.hid hR
   clear hR hHeld
   go_wp2_with fail
   go_meet
   exact⟨_,_,_,_,_,_,rfl,rfl,HR⟩
   clear hHeld
   go_simp
   have HT:=Lib.hid (HT.out.a8)
   try simp only[World.size_alloc] at HT
   have HS:=Lib.hid (HS.out.below ((Below.refl _ _).alloc (Nat.le_refl _) (.cells zS 40)))
   refine hK.out _ _ (HI.out _ HT.out.bel) (fun hHeld=>?_)
   clear hK K
   try simp only[lay]
   refine wpAnyH_ready (rs:=[4,9]) (by kernel_rfl) (by simp) (AllReadyH.cons rfl (fun K hK=>?_) (AllReadyH.cons rfl (fun K hK=>?_) AllReadyH.nil))
   clear hHeld
   go_simp
   go_at_call 14
   with_reducible refine(HRu.out _ p0 c0 q0 d0 HT.out.bel HS.out).mono ?_
   rintro e w7 ⟨⟨p1,c1,q1,d1,rfl,hs,_,_⟩,hb⟩
   have HT:=Lib.hid (HT.out.next hb)
   have HS:=Lib.hid hs
   clear hs hb
   go_wp2_with fail
   refine hK.out _ _ (HI.out _ HT.out.bel) (fun hHeld=>?_)
   clear hK K
   try simp only[lay]
   refine tq 5 rfl ?_
   refine tq 6 rfl ?_
   refine tq 7 rfl ?_
   refine rd1 9 rfl (fun K hK=>?_)
   clear hHeld
   go_simp
   have HT:=Lib.hid (HT.out.a9)
   try simp only[World.size_alloc] at HT
   have HS:=Lib.hid (HS.out.below ((Below.refl _ _).alloc (Nat.le_refl _) (.cells #[.int .i64 0,.int .u16 0] 47)))
   refine hK.out _ _ (HI.out _ HT.out.bel) (fun hHeld=>?_)
   clear hK K
   try simp only[lay]
   refine end2 10 11 HT.out HS.out HI.out rfl rfl rfl rfl rfl rfl (by rfl) (by rfl) rfl rfl rfl rfl (by kernel_rfl) (by kernel_rfl) (by kernel_rfl) (fun hR=>?_)
   have HR:=Lib.hid hR
   clear hR hHeld
   go_wp2_with fail
   go_meet
   exact⟨_,_,_,_,_,_,rfl,rfl,HR⟩
   clear hHeld
   go_simp
   have HT:=Lib.hid (HT.out.a9)
   try simp only[World.size_alloc] at HT
   have HS:=Lib.hid (HS.out.below ((Below.refl _ _).alloc (Nat.le_refl _) (.cells #[.int .i64 0,.int .u16 0] 47)))
   refine hK.out _ _ (HI.out _ HT.out.bel) (fun hHeld=>?_)
   clear hK K
   try simp only[lay]
   refine rd1 4 rfl (fun K hK=>?_)
   clear hHeld
   go_simp
   go_at_call 14
   with_reducible refine(HRu.out _ p0 c0 q0 d0 HT.out.bel HS.out).mono ?_
   rintro e w7 ⟨⟨p1,c1,q1,d1,rfl,hs,_,_⟩,hb⟩
   have HT:=Lib.hid (HT.out.next hb)
   have HS:=Lib.hid hs
   clear hs hb
   go_wp2_with fail
   refine hK.out _ _ (HI.out _ HT.out.bel) (fun hHeld=>?_)
   clear hK K
   try simp only[lay]
   refine tq 5 rfl ?_
   refine tq 6 rfl ?_
   refine tq 7 rfl ?_
   refine end2 10 11 HT.out HS.out HI.out rfl rfl rfl rfl rfl rfl (by rfl) (by rfl) rfl rfl rfl rfl (by kernel_rfl) (by kernel_rfl) (by kernel_rfl) (fun hR=>?_)
   have HR:=Lib.hid hR
   clear hR hHeld
   go_wp2_with fail
   go_meet
   exact⟨_,_,_,_,_,_,rfl,rfl,HR⟩
   clear hHeld
   go_simp
   have HT:=Lib.hid (HT.out.a9)
   try simp only[World.size_alloc] at HT
   have HS:=Lib.hid (HS.out.below ((Below.refl _ _).alloc (Nat.le_refl _) (.cells #[.int .i64 0,.int .u16 0] 47)))
   refine hK.out _ _ (HI.out _ HT.out.bel) (fun hHeld=>?_)
   clear hK K
   try simp only[lay]
   refine wpAnyH_ready (rs:=[4,8]) (by kernel_rfl) (by simp) (AllReadyH.cons rfl (fun K hK=>?_) (AllReadyH.cons rfl (fun K hK=>?_) AllReadyH.nil))
   clear hHeld
   go_simp
   go_at_call 14
   with_reducible refine(HRu.out _ p0 c0 q0 d0 HT.out.bel HS.out).mono ?_
   rintro e w7 ⟨⟨p1,c1,q1,d1,rfl,hs,_,_⟩,hb⟩
   have HT:=Lib.hid (HT.out.next hb)
   have HS:=Lib.hid hs
   clear hs hb
   go_wp2_with fail
   refine hK.out _ _ (HI.out _ HT.out.bel) (fun hHeld=>?_)
   clear hK K
   try simp only[lay]
   refine tq 5 rfl ?_
   refine tq 6 rfl ?_
   refine tq 7 rfl ?_
   refine rd1 8 rfl (fun K hK=>?_)
   clear hHeld
   go_simp
   have HT:=Lib.hid (HT.out.a8)
   try simp only[World.size_alloc] at HT
   have HS:=Lib.hid (HS.out.below ((Below.refl _ _).alloc (Nat.le_refl _) (.cells zS 40)))
   refine hK.out _ _ (HI.out _ HT.out.bel) (fun hHeld=>?_)
   clear hK K
   try simp only[lay]
   refine end2 10 11 HT.out HS.out HI.out rfl rfl rfl rfl rfl rfl (by rfl) (by rfl) rfl rfl rfl rfl (by kernel_rfl) (by kernel_rfl) (by kernel_rfl) (fun hR=>?_)
   have HR:=Lib.hid hR
   clear hR hHeld
   go_wp2_with fail
   go_meet
   exact⟨_,_,_,_,_,_,rfl,rfl,HR⟩
   clear hHeld
   go_simp
   have HT:=Lib.hid (HT.out.a8)
   try simp only[World.size_alloc] at HT
   have HS:=Lib.hid (HS.out.below ((Below.refl _ _).alloc (Nat.le_refl _) (.cells zS 40)))
   refine hK.out _ _ (HI.out _ HT.out.bel) (fun hHeld=>?_)
   clear hK K
   try simp only[lay]
   refine rd1 4 rfl (fun K hK=>?_)
   clear hHeld
   go_simp
   go_at_call 14
   with_reducible refine(HRu.out _ p0 c0 q0 d0 HT.out.bel HS.out).mono ?_
   rintro e w7 ⟨⟨p1,c1,q1,d1,rfl,hs,_,_⟩,hb⟩
   have HT:=Lib.hid (HT.out.next hb)
   have HS:=Lib.hid hs
   clear hs hb
   go_wp2_with fail
   refine hK.out _ _ (HI.out _ HT.out.bel) (fun hHeld=>?_)
   clear hK K
   try simp only[lay]
   refine tq 5 rfl ?_
   refine tq 6 rfl ?_
   refine tq 7 rfl ?_
   refine end2 10 11 HT.out HS.out HI.out rfl rfl rfl rfl rfl rfl (by rfl) (by rfl) rfl rfl rfl rfl (by kernel_rfl) (by kernel_rfl) (by kernel_rfl) (fun hR=>?_)
   have HR:=Lib.hid hR
   clear hR hHeld
   go_wp2_with fail
   go_meet
   exact⟨_,_,_,_,_,_,rfl,rfl,HR⟩
   clear hHeld
   go_simp
   have HT:=Lib.hid (HT.out.a8)
   try simp only[World.size_alloc] at HT
   refine hK.out _ _ (HI.out _ HT.out.bel) (fun hHeld=>?_)
   clear hK K
   try simp only[lay]
   refine wpAnyH_ready (rs:=[3,9]) (by kernel_rfl) (by simp) (AllReadyH.cons rfl (fun K hK=>?_) (AllReadyH.cons rfl (fun K hK=>?_) AllReadyH.nil))
   clear hHeld
   go_simp
   go_at_call 29
   with_reducible refine(HSt.out _ HT.out.bel).mono ?_
   rintro e w6 ⟨⟨p0,c0,q0,d0,rfl,hs,_,_⟩,hb⟩
   have HT:=Lib.hid (HT.out.next hb)
   have HS:=Lib.hid hs
   clear hs hb
   go_wp2_with fail
   refine hK.out _ _ (HI.out _ HT.out.bel) (fun hHeld=>?_)
   clear hK K
   try simp only[lay]
   refine wpAnyH_ready (rs:=[4,9]) (by kernel_rfl) (by simp) (AllReadyH.cons rfl (fun K hK=>?_) (AllReadyH.cons rfl (fun K hK=>?_) AllReadyH.nil))
   clear hHeld
   go_simp
   go_at_call 14
   with_reducible refine(HRu.out _ p0 c0 q0 d0 HT.out.bel HS.out).mono ?_
   rintro e w7 ⟨⟨p1,c1,q1,d1,rfl,hs,_,_⟩,hb⟩
   have HT:=Lib.hid (HT.out.next hb)
   have HS:=Lib.hid hs
   clear hs hb
   go_wp2_with fail
   refine hK.out _ _ (HI.out _ HT.out.bel) (fun hHeld=>?_)
   clear hK K
   try simp only[lay]
   refine tq 5 rfl ?_
   refine tq 6 rfl ?_
   refine tq 7 rfl ?_
   refine rd1 9 rfl (fun K hK=>?_)
   clear hHeld
   go_simp
   have HT:=Lib.hid (HT.out.a9)
   try simp only[World.size_alloc] at HT
   have HS:=Lib.hid (HS.out.below ((Below.refl _ _).alloc (Nat.le_refl _) (.cells #[.int .i64 0,.int .u16 0] 47)))
   refine hK.out _ _ (HI.out _ HT.out.bel) (fun hHeld=>?_)
   clear hK K
   try simp only[lay]
   refine end2 10 11 HT.out HS.out HI.out rfl rfl rfl rfl rfl rfl (by rfl) (by rfl) rfl rfl rfl rfl (by kernel_rfl) (by kernel_rfl) (by kernel_rfl) (fun hR=>?_)
   have HR:=Lib.hid hR
   clear hR hHeld
   go_wp2_with fail
   go_meet
   exact⟨_,_,_,_,_,_,rfl,rfl,HR⟩
   clear hHeld
   go_simp
   have HT:=Lib.hid (HT.out.a9)
   try simp only[World.size_alloc] at HT
   have HS:=Lib.hid (HS.out.below ((Below.refl _ _).alloc (Nat.le_refl _) (.cells #[.int .i64 0,.int .u16 0] 47)))
   refine hK.out _ _ (HI.out _ HT.out.bel) (fun hHeld=>?_)
   clear hK K
   try simp only[lay]
   refine rd1 4 rfl (fun K hK=>?_)
   clear hHeld
   go_simp
   go_at_call 14
   with_reducible refine(HRu.out _ p0 c0 q0 d0 HT.out.bel HS.out).mono ?_
   rintro e w7 ⟨⟨p1,c1,q1,d1,rfl,hs,_,_⟩,hb⟩
   have HT:=Lib.hid (HT.out.next hb)
   have HS:=Lib.hid hs
   clear hs hb
   go_wp2_with fail
   refine hK.out _ _ (HI.out _ HT.out.bel) (fun hHeld=>?_)
   clear hK K
   try simp only[lay]
   refine tq 5 rfl ?_
   refine tq 6 rfl ?_
   refine tq 7 rfl ?_
   refine end2 10 11 HT.out HS.out HI.out rfl rfl rfl rfl rfl rfl (by rfl) (by rfl) rfl rfl rfl rfl (by kernel_rfl) (by kernel_rfl) (by kernel_rfl) (fun hR=>?_)
   have HR:=Lib.hid hR
   clear hR hHeld
   go_wp2_with fail
   go_meet
   exact⟨_,_,_,_,_,_,rfl,rfl,HR⟩
   clear hHeld
   go_simp
   have HT:=Lib.hid (HT.out.a9)
   try simp only[World.size_alloc] at HT
   refine hK.out _ _ (HI.out _ HT.out.bel) (fun hHeld=>?_)
   clear hK K
   try simp only[lay]
   refine rd1 3 rfl (fun K hK=>?_)
   clear hHeld
   go_simp
   go_at_call 29
   with_reducible refine(HSt.out _ HT.out.bel).mono ?_
   rintro e w6 ⟨⟨p0,c0,q0,d0,rfl,hs,_,_⟩,hb⟩
   have HT:=Lib.hid (HT.out.next hb)
   have HS:=Lib.hid hs
   clear hs hb
   go_wp2_with fail
   refine hK.out _ _ (HI.out _ HT.out.bel) (fun hHeld=>?_)
   clear hK K
   try simp only[lay]
   refine rd1 4 rfl (fun K hK=>?_)
   clear hHeld
   go_simp
   go_at_call 14
   with_reducible refine(HRu.out _ p0 c0 q0 d0 HT.out.bel HS.out).mono ?_
   rintro e w7 ⟨⟨p1,c1,q1,d1,rfl,hs,_,_⟩,hb⟩
   have HT:=Lib.hid (HT.out.next hb)
   have HS:=Lib.hid hs
   clear hs hb
   go_wp2_with fail
   refine hK.out _ _ (HI.out _ HT.out.bel) (fun hHeld=>?_)
   clear hK K
   try simp only[lay]
   refine tq 5 rfl ?_
   refine tq 6 rfl ?_
   refine tq 7 rfl ?_
   refine end2 10 11 HT.out HS.out HI.out rfl rfl rfl rfl rfl rfl (by rfl) (by rfl) rfl rfl rfl rfl (by kernel_rfl) (by kernel_rfl) (by kernel_rfl) (fun hR=>?_)
   have HR:=Lib.hid hR
   clear hR hHeld
   go_wp2_with fail
   go_meet
   exact⟨_,_,_,_,_,_,rfl,rfl,HR⟩
   clear hHeld
   go_simp
   have HT:=Lib.hid (HT.out.a9)
   try simp only[World.size_alloc] at HT
   refine hK.out _ _ (HI.out _ HT.out.bel) (fun hHeld=>?_)
   clear hK K
   try simp only[lay]
   refine wpAnyH_ready (rs:=[3,8]) (by kernel_rfl) (by simp) (AllReadyH.cons rfl (fun K hK=>?_) (AllReadyH.cons rfl (fun K hK=>?_) AllReadyH.nil))
   clear hHeld
   go_simp
   go_at_call 29
   with_reducible refine(HSt.out _ HT.out.bel).mono ?_
   rintro e w6 ⟨⟨p0,c0,q0,d0,rfl,hs,_,_⟩,hb⟩
   have HT:=Lib.hid (HT.out.next hb)
   have HS:=Lib.hid hs
   clear hs hb
   go_wp2_with fail
   refine hK.out _ _ (HI.out _ HT.out.bel) (fun hHeld=>?_)
   clear hK K
   try simp only[lay]
   refine wpAnyH_ready (rs:=[4,8]) (by kernel_rfl) (by simp) (AllReadyH.cons rfl (fun K hK=>?_) (AllReadyH.cons rfl (fun K hK=>?_) AllReadyH.nil))
   clear hHeld
   go_simp
   go_at_call 14
   with_reducible refine(HRu.out _ p0 c0 q0 d0 HT.out.bel HS.out).mono ?_
   rintro e w7 ⟨⟨p1,c1,q1,d1,rfl,hs,_,_⟩,hb⟩
   have HT:=Lib.hid (HT.out.next hb)
   have HS:=Lib.hid hs
   clear hs hb
   go_wp2_with fail
   refine hK.out _ _ (HI.out _ HT.out.bel) (fun hHeld=>?_)
   clear hK K
   try simp only[lay]
   refine tq 5 rfl ?_
   refine tq 6 rfl ?_
   refine tq 7 rfl ?_
   refine rd1 8 rfl (fun K hK=>?_)
   clear hHeld
   go_simp
   have HT:=Lib.hid (HT.out.a8)
   try simp only[World.size_alloc] at HT
   have HS:=Lib.hid (HS.out.below ((Below.refl _ _).alloc (Nat.le_refl _) (.cells zS 40)))
   refine hK.out _ _ (HI.out _ HT.out.bel) (fun hHeld=>?_)
   clear hK K
   try simp only[lay]
   refine end2 10 11 HT.out HS.out HI.out rfl rfl rfl rfl rfl rfl (by rfl) (by rfl) rfl rfl rfl rfl (by kernel_rfl) (by kernel_rfl) (by kernel_rfl) (fun hR=>?_)
   have HR:=Lib.hid hR
   clear hR hHeld
   go_wp2_with fail
   go_meet
   exact⟨_,_,_,_,_,_,rfl,rfl,HR⟩
   clear hHeld
   go_simp
   have HT:=Lib.hid (HT.out.a8)
   try simp only[World.size_alloc] at HT
   have HS:=Lib.hid (HS.out.below ((Below.refl _ _).alloc (Nat.le_refl _) (.cells zS 40)))
   refine hK.out _ _ (HI.out _ HT.out.bel) (fun hHeld=>?_)
   clear hK K
   try simp only[lay]
   refine rd1 4 rfl (fun K hK=>?_)
   clear hHeld
   go_simp
   go_at_call 14
   with_reducible refine(HRu.out _ p0 c0 q0 d0 HT.out.bel HS.out).mono ?_
   rintro e w7 ⟨⟨p1,c1,q1,d1,rfl,hs,_,_⟩,hb⟩
   have HT:=Lib.hid (HT.out.next hb)
   have HS:=Lib.hid hs
   clear hs hb
   go_wp2_with fail
   refine hK.out _ _ (HI.out _ HT.out.bel) (fun hHeld=>?_)
   clear hK K
   try simp only[lay]
   refine tq 5 rfl ?_
   refine tq 6 rfl ?_
   refine tq 7 rfl ?_
   refine end2 10 11 HT.out HS.out HI.out rfl rfl rfl rfl rfl rfl (by rfl) (by rfl) rfl rfl rfl rfl (by kernel_rfl) (by kernel_rfl) (by kernel_rfl) (fun hR=>?_)
   have HR:=Lib.hid hR
   clear hR hHeld
   go_wp2_with fail
   go_meet
   exact⟨_,_,_,_,_,_,rfl,rfl,HR⟩
   clear hHeld
   go_simp
   have HT:=Lib.hid (HT.out.a8)
   try simp only[World.size_alloc] at HT
   refine hK.out _ _ (HI.out _ HT.out.bel) (fun hHeld=>?_)
   clear hK K
   try simp only[lay]
   refine rd1 3 rfl (fun K hK=>?_)
   clear hHeld
   go_simp
   go_at_call 29
   with_reducible refine(HSt.out _ HT.out.bel).mono ?_
   rintro e w6 ⟨⟨p0,c0,q0,d0,rfl,hs,_,_⟩,hb⟩
   have HT:=Lib.hid (HT.out.next hb)
   have HS:=Lib.hid hs
   clear hs hb
   go_wp2_with fail
   refine hK.out _ _ (HI.out _ HT.out.bel) (fun hHeld=>?_)
   clear hK K
   try simp only[lay]
   refine rd1 4 rfl (fun K hK=>?_)
   clear hHeld
   go_simp
   go_at_call 14
   with_reducible refine(HRu.out _ p0 c0 q0 d0 HT.out.bel HS.out).mono ?_
   rintro e w7 ⟨⟨p1,c1,q1,d1,rfl,hs,_,_⟩,hb⟩
   have HT:=Lib.hid (HT.out.next hb)
   have HS:=Lib.hid hs
   clear hs hb
   go_wp2_with fail
   refine hK.out _ _ (HI.out _ HT.out.bel) (fun hHeld=>?_)
   clear hK K
   try simp only[lay]
   refine tq 5 rfl ?_
   refine tq 6 rfl ?_
   refine tq 7 rfl ?_
   refine end2 10 11 HT.out HS.out HI.out rfl rfl rfl rfl rfl rfl (by rfl) (by rfl) rfl rfl rfl rfl (by kernel_rfl) (by kernel_rfl) (by kernel_rfl) (fun hR=>?_)
   have HR:=Lib.hid hR
   clear hR hHeld
   go_wp2_with fail
   go_meet
   exact⟨_,_,_,_,_,_,rfl,rfl,HR⟩
 case rest=>
 obtain⟨aC,bC,pC,cC,qC,dC,rfl,rfl,HRC⟩:=hcut
 obtain⟨VC,hV⟩:∃ V,V=wc:=⟨_,rfl⟩
 subst hV
 have HRA:=Lib.hid (HRA.out.next HRC.out.bel)
 have HRB:=Lib.hid (HRB.out.next HRC.out.bel)
 have a0:=block_cells HRA.out.trap 0 _ rfl
 have a1:=block_cells HRA.out.trap 1 _ rfl
 have a2:VC.cell? ⟨aA,1,none⟩=some (.int .u16 ((snapP endA.1).r 1)):=block_cells HRA.out.snap 1 _ rfl
 have a3:VC.cell? ⟨aA,8,none⟩=some (.int .u16 (snapP endA.1).pc):=block_cells HRA.out.snap 8 _ rfl
 have a4:VC.cell? ⟨aA,13,none⟩=some (.int .i64 (snapP endA.1).steps):=block_cells HRA.out.snap 13 _ rfl
 have e1:endA.2.1=1:=congrArg Prod.fst facA.1
 have e2:endA.2.2=0:=congrArg Prod.snd facA.1
 rw[e1] at a0
 rw[e2] at a1
 rw[show(snapP endA.1).r 1=5 from facA.2.1] at a2
 rw[show(snapP endA.1).pc=5 from facA.2.2.1] at a3
 rw[show(snapP endA.1).steps=2 from facA.2.2.2] at a4
 have b0:=block_cells HRB.out.trap 0 _ rfl
 have b1:=block_cells HRB.out.trap 1 _ rfl
 have b2:VC.cell? ⟨aB,18,none⟩=some (.slice qB (snapP endB.1).out.length dB):=block_cells HRB.out.snap 18 _ rfl
 have e3:endB.2.1=6:=congrArg Prod.fst facB.1
 have e4:endB.2.2=0:=congrArg Prod.snd facB.1
 rw[e3] at b0
 rw[e4] at b1
 have eo:(snapP endB.1).out=[(7,0)]:=facB.2.2
 rw[eo] at b2
 have HSl:=Lib.hid (eo▸HRB.out.lists.out)
 have heq1:=eql_tr 1 0 1 0
 have heq2:=eql_tr 6 0 6 0
 have heq3:=eql_tr 5 0 5 0
 simp only[and_self,decide_true] at heq1 heq2 heq3
 clear e1 e2 e3 e4 eo
 go_wp2_with fail
 have HB8:=Lib.hid ((Below.refl _ VC).alloc (Nat.le_refl _) (.cells #[.int .u16 7,.int .u16 0] 81))
 refine(events_any [(7,0)] [(7,0)] qB (some ⟨VC.heap.size,0,none⟩) dB 1 _ (HSl.out.below HB8.out) (fun j x hx=>⟨VC.heap.size,rfl,block_cells (heap_alloc_new VC _) j x (by rw[← hx];simp[evC])⟩) (by decide) (by decide)).mono ?_
 rintro e w8 ⟨rfl,hb8⟩
 have HC8:=HRC.out.next (HB8.out.trans (hb8.mono HB8.out.size))
 have HBB8:=HRB.out.next (HB8.out.trans (hb8.mono HB8.out.size))
 have c0:=block_cells HC8.trap 0 _ rfl
 have c1:=block_cells HC8.trap 1 _ rfl
 have c2:w8.cell? ⟨aC,13,none⟩=some (.int .i64 (snapP endC.1).steps):=block_cells HC8.snap 13 _ rfl
 have c3:w8.cell? ⟨aC,3,none⟩=some (.int .u16 ((snapP endC.1).r 3)):=block_cells HC8.snap 3 _ rfl
 have b3:w8.cell? ⟨aB,17,none⟩=some (.slice pB (snapP endB.1).stk.length cB):=block_cells HBB8.snap 17 _ rfl
 have e1:endC.2.1=5:=congrArg Prod.fst facC.1
 have e2:endC.2.2=0:=congrArg Prod.snd facC.1
 rw[e1] at c0
 rw[e2] at c1
 rw[show(snapP endC.1).steps=2 from facC.2.1] at c2
 rw[show(snapP endC.1).r 3=0 from facC.2.2] at c3
 rw[show(snapP endB.1).stk.length=0 by show((List.range endB.1.sp).map endB.1.stk).length=0;rw[List.length_map,List.length_range];exact facB.2.1] at b3
 have HE:=Lib.hid ((HBC.out.trans (HRC.out.bel.mono HBC.out.size)).trans ((HB8.out.trans (hb8.mono HB8.out.size)).mono (Nat.le_trans HBC.out.size HRC.out.bel.size)))
 clear a0 a1 a2 a3 a4 b0 b1 b2 hb8 e1 e2 HC8 HBB8
 go_wp2_with fail
 go_ret
 exact⟨rfl,HE.out⟩
end Go.Proofs.YthkcloapiefggaaGreatDoor
