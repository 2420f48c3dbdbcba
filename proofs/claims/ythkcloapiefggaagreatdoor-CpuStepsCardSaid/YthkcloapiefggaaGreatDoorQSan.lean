import Derived.Test.YthkcloapiefggaaGreatDoorQXsm
namespace Go.Proofs.YthkcloapiefggaaGreatDoor
set_option linter.unusedVariables false
set_option linter.unusedSimpArgs false
set_option maxRecDepth 100000
set_option maxHeartbeats 1000000
open Go.ChangeShapes Go.WideShapes Go.RowKit
theorem kQ:(Tryz.prog.info? 33).map (·.size)=some 5:=by kernel_rfl
def sA:ByteArray:=⟨#[48,1,5,33,18,2]⟩
def sB:ByteArray:=⟨#[145,0,7,1]⟩
def sC:ByteArray:=⟨#[17,3,17,3,17,3]⟩
def jO:Ms × Int × Int:=eP (eF 0 sA) ⟨[],[]⟩ 100 (aQ (au (gy (eF 0 sA))))
def kE:Ms × Int × Int:=eP (eF 0 sB) ⟨[],[]⟩ 100 (aQ (au (gy (eF 0 sB))))
def lJ:Ms × Int × Int:=eP (eF 0 sC) ⟨[],[]⟩ 100 (aQ (au (gy (eF 0 sC))))
theorem DU:jO.2=(1,0)∧jO.1.r 1=5∧jO.1.pc=5∧jO.1.steps=2:=by
 have h:decide (jO.2=(1,0)∧jO.1.r 1=5∧jO.1.pc=5∧jO.1.steps=2)=true:=by kernel_rfl
 exact of_decide_eq_true h
theorem Gp:kE.2=(6,0)∧kE.1.sp=0∧kE.1.out=[(7,0)]:=by
 have h:decide (kE.2=(6,0)∧kE.1.sp=0∧kE.1.out=[(7,0)])=true:=by kernel_rfl
 exact of_decide_eq_true h
theorem Gn:lJ.2=(5,0)∧lJ.1.steps=2∧lJ.1.r 3=0:=by
 have h:decide (lJ.2=(5,0)∧lJ.1.steps=2∧lJ.1.r 3=0)=true:=by kernel_rfl
 exact of_decide_eq_true h
theorem uo(o:Nat)(s:ByteArray):(eF o s).Ok:=⟨Int.le_refl 0,(show(0:Int) < 65536 by decide),Int.le_refl 0,(show(0:Int) < 65536 by decide),by intro b hb;simp[eF] at hb;subst hb;rw[sD];decide,by intro x hx;simp[eF] at hx,by intro x hx;simp[eF] at hx,(show 1≤1000000000 by decide),Nat.zero_le _,Nat.zero_le _⟩
def jq(g:Nat):Pl:=⟨some ⟨g,0,none⟩,1,none,0,none,0⟩
theorem one_has{V:World}{g:Nat}(o:Nat)(s:ByteArray)(h:V.heap[g]? =some (.cells #[.string (kZ o s)] 9 (0,0))):Has V (jq g) (eF o s):=
 ⟨fun j x hx=>⟨g,rfl,ae h j x (by rw[← hx];simp[sV,eF])⟩,Sl.nil _ _,Sl.nil _ _⟩
theorem EZ{S:Ms}(h:S.Ok):(au S).Ok:=⟨h.r,h.pc,h.fp,h.f,h.aF,h.steps,h.inp,h.pol,fun x hx=>by
  obtain⟨j,hj,rfl⟩:=List.mem_map.1 hx;exact h.stk j (by have:=List.mem_range.1 hj;have:=h.sp;omega),h.out⟩
theorem zx(I:Im)(hI:I.Ok):(gy I).Ok:=qE (rM I hI)
theorem wX(g:Nat)(s:ByteArray)(U:World)(h:U.heap[g]? =some (.cells #[.string (kZ 0 s)] 9 (0,0)))(ht:iq U):
  Calls Tryz.prog 29 #[.agg (imL (jq g) (eF 0 s)).toArray] U fun e w'=>kJ U.heap.size (au (gy (eF 0 s))) e w'∧Below U.heap.size U w':=x8 (jq g) (eF 0 s) U (uo 0 s) (one_has 0 s h) ht
theorem wZ(g:Nat)(s:ByteArray)(U:World)(p:Option Addr)(c:Nat)(q:Option Addr)(d:Nat)(h:U.heap[g]? =some (.cells #[.string (kZ 0 s)] 9 (0,0)))(ht:iq U)(hs:SnH U (au (gy (eF 0 s))) p q):
  Calls Tryz.prog 14 #[.agg (imL (jq g) (eF 0 s)).toArray,.agg #[.slice none 0 0,.slice none 0 0],snV (au (gy (eF 0 s))) p c q d,.int .i64 100] U fun e w'=>kK U.heap.size (au (eP (eF 0 s) ⟨[],[]⟩ 100 (aQ (au (gy (eF 0 s))))).1) (eP (eF 0 s) ⟨[],[]⟩ 100 (aQ (au (gy (eF 0 s))))).2.1 (eP (eF 0 s) ⟨[],[]⟩ 100 (aQ (au (gy (eF 0 s))))).2.2 e w'∧Below U.heap.size U w':=
 D8 (jq g) (eF 0 s) ⟨[],[]⟩ none none 0 0 (au (gy (eF 0 s))) p q c d 100 U (uo 0 s) ⟨by simp,by simp,by simp,by simp⟩ (EZ (zx _ (uo 0 s))) (one_has 0 s h) (Sl.nil _ _).slo (Sl.nil _ _).slo hs ht ⟨by decide,by decide⟩ (show(0:Nat)+100≤1000000000 by decide)
set_option maxHeartbeats 100000000 in
theorem pR(w:World)(ht:iq w):Calls Tryz.prog 12 #[] w fun e w'=>e= .returned (.bool true)∧Below w.heap.size w w':=by
 have HTab:=Nc ht;have hpos:0 < w.heap.size:=by obtain⟨_,_,h⟩:=ht;exact lt_of_block h
 have HPos:=Nc hpos;have hb44:Tryz.prog.built 43 []=some #[.slice none 0 0,.slice none 0 0]:=by kernel_rfl
 clear ht hpos;go_enter Tryz.func12,Tryz.ntmps12
 go_wp2_with fail
 refine(nS sA _ (by decide)).mono ?_;rintro e wA ⟨⟨gA,rfl,hg,hbk⟩,hb1⟩;have hB:Below w.heap.size w (wA.alloc (.cells #[.slice (some ⟨gA,0,none⟩) 1 1,.int .u16 0,.int .u16 0,.slice none 0 0,.slice none 0 0] 33)):=((Below.refl w.heap.size w).trans (hb1.mono (Below.refl w.heap.size w).size)).alloc (Nat.le_trans (Below.refl w.heap.size w).size hb1.size) _;have hBx:=heap_alloc_new wA (.cells #[.slice (some ⟨gA,0,none⟩) 1 1,.int .u16 0,.int .u16 0,.slice none 0 0,.slice none 0 0] 33);have hBk:=aj _ (.cells #[.slice (some ⟨gA,0,none⟩) 1 1,.int .u16 0,.int .u16 0,.slice none 0 0,.slice none 0 0] 33) _ hbk;clear hb1 hg hbk;go_upto_region 2 with fail
 obtain⟨WA,hW⟩:∃ W,wA.alloc (.cells #[.slice (some ⟨gA,0,none⟩) 1 1,.int .u16 0,.int .u16 0,.slice none 0 0,.slice none 0 0] 33)=W:=⟨_,rfl⟩;rw[hW] at hB hBx hBk;rw[hW];obtain⟨nA,hn⟩:∃ n,wA.heap.size=n:=⟨_,rfl⟩;rw[hn] at hBx;rw[hn];have HBA:=Nc hB;have HBxA:=Nc hBx;have HBkA:=Nc hBk;have HTbA:=Nc (bF HPos.out HTab.out hB);clear hB hBx hBk hW hn;go_cut [2,3] (fun v2 v3 wx=>∃ a b p c q d,v2= .pointer (some ⟨a,0,none⟩)∧v3= .pointer (some ⟨b,0,none⟩)∧Hid (fZ WA (au jO.1) jO.2.1 jO.2.2 a b p c q d wx))
 case first=>
  as_aux_lemma=>
   have HI:=Nc (fun U (hU:Below WA.heap.size WA U)=>(show U.rangeAt nA 0 (imL (jq gA) (eF 0 sA)) from aH (af HBxA.out hU) _ (fun j v hv=>by rw[← hv];simp[imL,jq,eF])));have HSt:=Nc (fun U (hU:Below WA.heap.size WA U)=>wX gA sA U (af HBkA.out hU) (bF (Nat.lt_of_lt_of_le HPos.out HBA.out.size) HTbA.out hU));have HRu:=Nc (fun U p c q d (hU:Below WA.heap.size WA U) (hs:SnH U (au (gy (eF 0 sA))) p q)=>wZ gA sA U p c q d (af HBkA.out hU) (bF (Nat.lt_of_lt_of_le HPos.out HBA.out.size) HTbA.out hU) hs);have HT:=Nc (Tr.start WA);refine wp_region_held_drew (S:=fun w'=>w'.rangeAt nA 0 (imL (jq gA) (eF 0 sA))) (by kernel_rfl) (HI.out _ HT.out.bel) (fun hHeld=>?_);obtain⟨wd,hwd⟩:∃ wd,WA.drew=wd:=⟨_,rfl⟩;rw[hwd] at hHeld HT;rw[hwd];clear hwd;refine tk 0 _ rfl (yieldsIf_load_mid (by rfl) 33 _ rfl nA 0 rfl (imL (jq gA) (eF 0 sA)) _ (fun w hw=>hw) Tryz.underlying33 rfl kQ) ?_;refine tq 1 rfl ?_;refine tk 2 _ rfl (yieldsIf_load_mid (by rfl) 33 _ rfl nA 0 rfl (imL (jq gA) (eF 0 sA)) _ (fun w hw=>hw) Tryz.underlying33 rfl kQ) ?_;refine wpAnyH_ready (rs:=[3,8,9]) (by kernel_rfl) (by simp) (AllReadyH.cons rfl (fun K hK=>?_) (AllReadyH.cons rfl (fun K hK=>?_) (AllReadyH.cons rfl (fun K hK=>?_) AllReadyH.nil)));clear hHeld;go_simp;go_at_call 29;with_reducible refine(HSt.out _ HT.out.bel).mono ?_
   rintro e w6 ⟨⟨p0,c0,q0,d0,rfl,hs,_,_⟩,hb⟩;have HT:=Nc (HT.out.next hb);have HS:=Nc hs;clear hs hb;go_wp2_with fail
   refine hK.out _ _ (HI.out _ HT.out.bel) (fun hHeld=>?_);clear hK K
   try simp only[lay]
   refine wpAnyH_ready (rs:=[4,8,9]) (by kernel_rfl) (by simp) (AllReadyH.cons rfl (fun K hK=>?_) (AllReadyH.cons rfl (fun K hK=>?_) (AllReadyH.cons rfl (fun K hK=>?_) AllReadyH.nil)));clear hHeld;go_simp;go_at_call 14;with_reducible refine(HRu.out _ p0 c0 q0 d0 HT.out.bel HS.out).mono ?_
   rintro e w7 ⟨⟨p1,c1,q1,d1,rfl,hs,_,_⟩,hb⟩;have HT:=Nc (HT.out.next hb);have HS:=Nc hs;clear hs hb;go_wp2_with fail
   refine hK.out _ _ (HI.out _ HT.out.bel) (fun hHeld=>?_);clear hK K
   try simp only[lay]
   refine tq 5 rfl ?_;refine tq 6 rfl ?_;refine tq 7 rfl ?_;refine wpAnyH_ready (rs:=[8,9]) (by kernel_rfl) (by simp) (AllReadyH.cons rfl (fun K hK=>?_) (AllReadyH.cons rfl (fun K hK=>?_) AllReadyH.nil));clear hHeld;go_simp;have HT:=Nc (HT.out.a8)
   try simp only[World.size_alloc] at HT
   have HS:=Nc (HS.out.below ((Below.refl _ _).alloc (Nat.le_refl _) (.cells zS 40)));refine hK.out _ _ (HI.out _ HT.out.bel) (fun hHeld=>?_);clear hK K
   try simp only[lay]
   refine rd1 9 rfl (fun K hK=>?_);clear hHeld;go_simp;have HT:=Nc (HT.out.a9)
   try simp only[World.size_alloc] at HT
   have HS:=Nc (HS.out.below ((Below.refl _ _).alloc (Nat.le_refl _) (.cells #[.int .i64 0,.int .u16 0] 47)));refine hK.out _ _ (HI.out _ HT.out.bel) (fun hHeld=>?_);clear hK K
   try simp only[lay]
   refine fP 10 11 HT.out HS.out HI.out rfl rfl rfl rfl rfl rfl (by rfl) (by rfl) rfl rfl rfl rfl (by kernel_rfl) (by kernel_rfl) (by kernel_rfl) (fun hR=>?_);have HR:=Nc hR;clear hR hHeld;go_wp2_with fail
   go_meet
   exact⟨_,_,_,_,_,_,rfl,rfl,HR⟩;clear hHeld;go_simp;have HT:=Nc (HT.out.a9)
   try simp only[World.size_alloc] at HT
   have HS:=Nc (HS.out.below ((Below.refl _ _).alloc (Nat.le_refl _) (.cells #[.int .i64 0,.int .u16 0] 47)));refine hK.out _ _ (HI.out _ HT.out.bel) (fun hHeld=>?_);clear hK K
   try simp only[lay]
   refine rd1 8 rfl (fun K hK=>?_);clear hHeld;go_simp;have HT:=Nc (HT.out.a8)
   try simp only[World.size_alloc] at HT
   have HS:=Nc (HS.out.below ((Below.refl _ _).alloc (Nat.le_refl _) (.cells zS 40)));refine hK.out _ _ (HI.out _ HT.out.bel) (fun hHeld=>?_);clear hK K
   try simp only[lay]
   refine fP 10 11 HT.out HS.out HI.out rfl rfl rfl rfl rfl rfl (by rfl) (by rfl) rfl rfl rfl rfl (by kernel_rfl) (by kernel_rfl) (by kernel_rfl) (fun hR=>?_);have HR:=Nc hR;clear hR hHeld;go_wp2_with fail
   go_meet
   exact⟨_,_,_,_,_,_,rfl,rfl,HR⟩;clear hHeld;go_simp;have HT:=Nc (HT.out.a8)
   try simp only[World.size_alloc] at HT
   have HS:=Nc (HS.out.below ((Below.refl _ _).alloc (Nat.le_refl _) (.cells zS 40)));refine hK.out _ _ (HI.out _ HT.out.bel) (fun hHeld=>?_);clear hK K
   try simp only[lay]
   refine wpAnyH_ready (rs:=[4,9]) (by kernel_rfl) (by simp) (AllReadyH.cons rfl (fun K hK=>?_) (AllReadyH.cons rfl (fun K hK=>?_) AllReadyH.nil));clear hHeld;go_simp;go_at_call 14;with_reducible refine(HRu.out _ p0 c0 q0 d0 HT.out.bel HS.out).mono ?_
   rintro e w7 ⟨⟨p1,c1,q1,d1,rfl,hs,_,_⟩,hb⟩;have HT:=Nc (HT.out.next hb);have HS:=Nc hs;clear hs hb;go_wp2_with fail
   refine hK.out _ _ (HI.out _ HT.out.bel) (fun hHeld=>?_);clear hK K
   try simp only[lay]
   refine tq 5 rfl ?_;refine tq 6 rfl ?_;refine tq 7 rfl ?_;refine rd1 9 rfl (fun K hK=>?_);clear hHeld;go_simp;have HT:=Nc (HT.out.a9)
   try simp only[World.size_alloc] at HT
   have HS:=Nc (HS.out.below ((Below.refl _ _).alloc (Nat.le_refl _) (.cells #[.int .i64 0,.int .u16 0] 47)));refine hK.out _ _ (HI.out _ HT.out.bel) (fun hHeld=>?_);clear hK K
   try simp only[lay]
   refine fP 10 11 HT.out HS.out HI.out rfl rfl rfl rfl rfl rfl (by rfl) (by rfl) rfl rfl rfl rfl (by kernel_rfl) (by kernel_rfl) (by kernel_rfl) (fun hR=>?_);have HR:=Nc hR;clear hR hHeld;go_wp2_with fail
   go_meet
   exact⟨_,_,_,_,_,_,rfl,rfl,HR⟩;clear hHeld;go_simp;have HT:=Nc (HT.out.a9)
   try simp only[World.size_alloc] at HT
   have HS:=Nc (HS.out.below ((Below.refl _ _).alloc (Nat.le_refl _) (.cells #[.int .i64 0,.int .u16 0] 47)));refine hK.out _ _ (HI.out _ HT.out.bel) (fun hHeld=>?_);clear hK K
   try simp only[lay]
   refine rd1 4 rfl (fun K hK=>?_);clear hHeld;go_simp;go_at_call 14;with_reducible refine(HRu.out _ p0 c0 q0 d0 HT.out.bel HS.out).mono ?_
   rintro e w7 ⟨⟨p1,c1,q1,d1,rfl,hs,_,_⟩,hb⟩;have HT:=Nc (HT.out.next hb);have HS:=Nc hs;clear hs hb;go_wp2_with fail
   refine hK.out _ _ (HI.out _ HT.out.bel) (fun hHeld=>?_);clear hK K
   try simp only[lay]
   refine tq 5 rfl ?_;refine tq 6 rfl ?_;refine tq 7 rfl ?_;refine fP 10 11 HT.out HS.out HI.out rfl rfl rfl rfl rfl rfl (by rfl) (by rfl) rfl rfl rfl rfl (by kernel_rfl) (by kernel_rfl) (by kernel_rfl) (fun hR=>?_);have HR:=Nc hR;clear hR hHeld;go_wp2_with fail
   go_meet
   exact⟨_,_,_,_,_,_,rfl,rfl,HR⟩;clear hHeld;go_simp;have HT:=Nc (HT.out.a9)
   try simp only[World.size_alloc] at HT
   have HS:=Nc (HS.out.below ((Below.refl _ _).alloc (Nat.le_refl _) (.cells #[.int .i64 0,.int .u16 0] 47)));refine hK.out _ _ (HI.out _ HT.out.bel) (fun hHeld=>?_);clear hK K
   try simp only[lay]
   refine wpAnyH_ready (rs:=[4,8]) (by kernel_rfl) (by simp) (AllReadyH.cons rfl (fun K hK=>?_) (AllReadyH.cons rfl (fun K hK=>?_) AllReadyH.nil));clear hHeld;go_simp;go_at_call 14;with_reducible refine(HRu.out _ p0 c0 q0 d0 HT.out.bel HS.out).mono ?_
   rintro e w7 ⟨⟨p1,c1,q1,d1,rfl,hs,_,_⟩,hb⟩;have HT:=Nc (HT.out.next hb);have HS:=Nc hs;clear hs hb;go_wp2_with fail
   refine hK.out _ _ (HI.out _ HT.out.bel) (fun hHeld=>?_);clear hK K
   try simp only[lay]
   refine tq 5 rfl ?_;refine tq 6 rfl ?_;refine tq 7 rfl ?_;refine rd1 8 rfl (fun K hK=>?_);clear hHeld;go_simp;have HT:=Nc (HT.out.a8)
   try simp only[World.size_alloc] at HT
   have HS:=Nc (HS.out.below ((Below.refl _ _).alloc (Nat.le_refl _) (.cells zS 40)));refine hK.out _ _ (HI.out _ HT.out.bel) (fun hHeld=>?_);clear hK K
   try simp only[lay]
   refine fP 10 11 HT.out HS.out HI.out rfl rfl rfl rfl rfl rfl (by rfl) (by rfl) rfl rfl rfl rfl (by kernel_rfl) (by kernel_rfl) (by kernel_rfl) (fun hR=>?_);have HR:=Nc hR;clear hR hHeld;go_wp2_with fail
   go_meet
   exact⟨_,_,_,_,_,_,rfl,rfl,HR⟩;clear hHeld;go_simp;have HT:=Nc (HT.out.a8)
   try simp only[World.size_alloc] at HT
   have HS:=Nc (HS.out.below ((Below.refl _ _).alloc (Nat.le_refl _) (.cells zS 40)));refine hK.out _ _ (HI.out _ HT.out.bel) (fun hHeld=>?_);clear hK K
   try simp only[lay]
   refine rd1 4 rfl (fun K hK=>?_);clear hHeld;go_simp;go_at_call 14;with_reducible refine(HRu.out _ p0 c0 q0 d0 HT.out.bel HS.out).mono ?_
   rintro e w7 ⟨⟨p1,c1,q1,d1,rfl,hs,_,_⟩,hb⟩;have HT:=Nc (HT.out.next hb);have HS:=Nc hs;clear hs hb;go_wp2_with fail
   refine hK.out _ _ (HI.out _ HT.out.bel) (fun hHeld=>?_);clear hK K
   try simp only[lay]
   refine tq 5 rfl ?_;refine tq 6 rfl ?_;refine tq 7 rfl ?_;refine fP 10 11 HT.out HS.out HI.out rfl rfl rfl rfl rfl rfl (by rfl) (by rfl) rfl rfl rfl rfl (by kernel_rfl) (by kernel_rfl) (by kernel_rfl) (fun hR=>?_);have HR:=Nc hR;clear hR hHeld;go_wp2_with fail
   go_meet
   exact⟨_,_,_,_,_,_,rfl,rfl,HR⟩;clear hHeld;go_simp;have HT:=Nc (HT.out.a8)
   try simp only[World.size_alloc] at HT
   refine hK.out _ _ (HI.out _ HT.out.bel) (fun hHeld=>?_);clear hK K
   try simp only[lay]
   refine wpAnyH_ready (rs:=[3,9]) (by kernel_rfl) (by simp) (AllReadyH.cons rfl (fun K hK=>?_) (AllReadyH.cons rfl (fun K hK=>?_) AllReadyH.nil));clear hHeld;go_simp;go_at_call 29;with_reducible refine(HSt.out _ HT.out.bel).mono ?_
   rintro e w6 ⟨⟨p0,c0,q0,d0,rfl,hs,_,_⟩,hb⟩;have HT:=Nc (HT.out.next hb);have HS:=Nc hs;clear hs hb;go_wp2_with fail
   refine hK.out _ _ (HI.out _ HT.out.bel) (fun hHeld=>?_);clear hK K
   try simp only[lay]
   refine wpAnyH_ready (rs:=[4,9]) (by kernel_rfl) (by simp) (AllReadyH.cons rfl (fun K hK=>?_) (AllReadyH.cons rfl (fun K hK=>?_) AllReadyH.nil));clear hHeld;go_simp;go_at_call 14;with_reducible refine(HRu.out _ p0 c0 q0 d0 HT.out.bel HS.out).mono ?_
   rintro e w7 ⟨⟨p1,c1,q1,d1,rfl,hs,_,_⟩,hb⟩;have HT:=Nc (HT.out.next hb);have HS:=Nc hs;clear hs hb;go_wp2_with fail
   refine hK.out _ _ (HI.out _ HT.out.bel) (fun hHeld=>?_);clear hK K
   try simp only[lay]
   refine tq 5 rfl ?_;refine tq 6 rfl ?_;refine tq 7 rfl ?_;refine rd1 9 rfl (fun K hK=>?_);clear hHeld;go_simp;have HT:=Nc (HT.out.a9)
   try simp only[World.size_alloc] at HT
   have HS:=Nc (HS.out.below ((Below.refl _ _).alloc (Nat.le_refl _) (.cells #[.int .i64 0,.int .u16 0] 47)));refine hK.out _ _ (HI.out _ HT.out.bel) (fun hHeld=>?_);clear hK K
   try simp only[lay]
   refine fP 10 11 HT.out HS.out HI.out rfl rfl rfl rfl rfl rfl (by rfl) (by rfl) rfl rfl rfl rfl (by kernel_rfl) (by kernel_rfl) (by kernel_rfl) (fun hR=>?_);have HR:=Nc hR;clear hR hHeld;go_wp2_with fail
   go_meet
   exact⟨_,_,_,_,_,_,rfl,rfl,HR⟩;clear hHeld;go_simp;have HT:=Nc (HT.out.a9)
   try simp only[World.size_alloc] at HT
   have HS:=Nc (HS.out.below ((Below.refl _ _).alloc (Nat.le_refl _) (.cells #[.int .i64 0,.int .u16 0] 47)));refine hK.out _ _ (HI.out _ HT.out.bel) (fun hHeld=>?_);clear hK K
   try simp only[lay]
   refine rd1 4 rfl (fun K hK=>?_);clear hHeld;go_simp;go_at_call 14;with_reducible refine(HRu.out _ p0 c0 q0 d0 HT.out.bel HS.out).mono ?_
   rintro e w7 ⟨⟨p1,c1,q1,d1,rfl,hs,_,_⟩,hb⟩;have HT:=Nc (HT.out.next hb);have HS:=Nc hs;clear hs hb;go_wp2_with fail
   refine hK.out _ _ (HI.out _ HT.out.bel) (fun hHeld=>?_);clear hK K
   try simp only[lay]
   refine tq 5 rfl ?_;refine tq 6 rfl ?_;refine tq 7 rfl ?_;refine fP 10 11 HT.out HS.out HI.out rfl rfl rfl rfl rfl rfl (by rfl) (by rfl) rfl rfl rfl rfl (by kernel_rfl) (by kernel_rfl) (by kernel_rfl) (fun hR=>?_);have HR:=Nc hR;clear hR hHeld;go_wp2_with fail
   go_meet
   exact⟨_,_,_,_,_,_,rfl,rfl,HR⟩;clear hHeld;go_simp;have HT:=Nc (HT.out.a9)
   try simp only[World.size_alloc] at HT
   refine hK.out _ _ (HI.out _ HT.out.bel) (fun hHeld=>?_);clear hK K
   try simp only[lay]
   refine rd1 3 rfl (fun K hK=>?_);clear hHeld;go_simp;go_at_call 29;with_reducible refine(HSt.out _ HT.out.bel).mono ?_
   rintro e w6 ⟨⟨p0,c0,q0,d0,rfl,hs,_,_⟩,hb⟩;have HT:=Nc (HT.out.next hb);have HS:=Nc hs;clear hs hb;go_wp2_with fail
   refine hK.out _ _ (HI.out _ HT.out.bel) (fun hHeld=>?_);clear hK K
   try simp only[lay]
   refine rd1 4 rfl (fun K hK=>?_);clear hHeld;go_simp;go_at_call 14;with_reducible refine(HRu.out _ p0 c0 q0 d0 HT.out.bel HS.out).mono ?_
   rintro e w7 ⟨⟨p1,c1,q1,d1,rfl,hs,_,_⟩,hb⟩;have HT:=Nc (HT.out.next hb);have HS:=Nc hs;clear hs hb;go_wp2_with fail
   refine hK.out _ _ (HI.out _ HT.out.bel) (fun hHeld=>?_);clear hK K
   try simp only[lay]
   refine tq 5 rfl ?_;refine tq 6 rfl ?_;refine tq 7 rfl ?_;refine fP 10 11 HT.out HS.out HI.out rfl rfl rfl rfl rfl rfl (by rfl) (by rfl) rfl rfl rfl rfl (by kernel_rfl) (by kernel_rfl) (by kernel_rfl) (fun hR=>?_);have HR:=Nc hR;clear hR hHeld;go_wp2_with fail
   go_meet
   exact⟨_,_,_,_,_,_,rfl,rfl,HR⟩;clear hHeld;go_simp;have HT:=Nc (HT.out.a9)
   try simp only[World.size_alloc] at HT
   refine hK.out _ _ (HI.out _ HT.out.bel) (fun hHeld=>?_);clear hK K
   try simp only[lay]
   refine wpAnyH_ready (rs:=[3,8]) (by kernel_rfl) (by simp) (AllReadyH.cons rfl (fun K hK=>?_) (AllReadyH.cons rfl (fun K hK=>?_) AllReadyH.nil));clear hHeld;go_simp;go_at_call 29;with_reducible refine(HSt.out _ HT.out.bel).mono ?_
   rintro e w6 ⟨⟨p0,c0,q0,d0,rfl,hs,_,_⟩,hb⟩;have HT:=Nc (HT.out.next hb);have HS:=Nc hs;clear hs hb;go_wp2_with fail
   refine hK.out _ _ (HI.out _ HT.out.bel) (fun hHeld=>?_);clear hK K
   try simp only[lay]
   refine wpAnyH_ready (rs:=[4,8]) (by kernel_rfl) (by simp) (AllReadyH.cons rfl (fun K hK=>?_) (AllReadyH.cons rfl (fun K hK=>?_) AllReadyH.nil));clear hHeld;go_simp;go_at_call 14;with_reducible refine(HRu.out _ p0 c0 q0 d0 HT.out.bel HS.out).mono ?_
   rintro e w7 ⟨⟨p1,c1,q1,d1,rfl,hs,_,_⟩,hb⟩;have HT:=Nc (HT.out.next hb);have HS:=Nc hs;clear hs hb;go_wp2_with fail
   refine hK.out _ _ (HI.out _ HT.out.bel) (fun hHeld=>?_);clear hK K
   try simp only[lay]
   refine tq 5 rfl ?_;refine tq 6 rfl ?_;refine tq 7 rfl ?_;refine rd1 8 rfl (fun K hK=>?_);clear hHeld;go_simp;have HT:=Nc (HT.out.a8)
   try simp only[World.size_alloc] at HT
   have HS:=Nc (HS.out.below ((Below.refl _ _).alloc (Nat.le_refl _) (.cells zS 40)));refine hK.out _ _ (HI.out _ HT.out.bel) (fun hHeld=>?_);clear hK K
   try simp only[lay]
   refine fP 10 11 HT.out HS.out HI.out rfl rfl rfl rfl rfl rfl (by rfl) (by rfl) rfl rfl rfl rfl (by kernel_rfl) (by kernel_rfl) (by kernel_rfl) (fun hR=>?_);have HR:=Nc hR;clear hR hHeld;go_wp2_with fail
   go_meet
   exact⟨_,_,_,_,_,_,rfl,rfl,HR⟩;clear hHeld;go_simp;have HT:=Nc (HT.out.a8)
   try simp only[World.size_alloc] at HT
   have HS:=Nc (HS.out.below ((Below.refl _ _).alloc (Nat.le_refl _) (.cells zS 40)));refine hK.out _ _ (HI.out _ HT.out.bel) (fun hHeld=>?_);clear hK K
   try simp only[lay]
   refine rd1 4 rfl (fun K hK=>?_);clear hHeld;go_simp;go_at_call 14;with_reducible refine(HRu.out _ p0 c0 q0 d0 HT.out.bel HS.out).mono ?_
   rintro e w7 ⟨⟨p1,c1,q1,d1,rfl,hs,_,_⟩,hb⟩;have HT:=Nc (HT.out.next hb);have HS:=Nc hs;clear hs hb;go_wp2_with fail
   refine hK.out _ _ (HI.out _ HT.out.bel) (fun hHeld=>?_);clear hK K
   try simp only[lay]
   refine tq 5 rfl ?_;refine tq 6 rfl ?_;refine tq 7 rfl ?_;refine fP 10 11 HT.out HS.out HI.out rfl rfl rfl rfl rfl rfl (by rfl) (by rfl) rfl rfl rfl rfl (by kernel_rfl) (by kernel_rfl) (by kernel_rfl) (fun hR=>?_);have HR:=Nc hR;clear hR hHeld;go_wp2_with fail
   go_meet
   exact⟨_,_,_,_,_,_,rfl,rfl,HR⟩;clear hHeld;go_simp;have HT:=Nc (HT.out.a8)
   try simp only[World.size_alloc] at HT
   refine hK.out _ _ (HI.out _ HT.out.bel) (fun hHeld=>?_);clear hK K
   try simp only[lay]
   refine rd1 3 rfl (fun K hK=>?_);clear hHeld;go_simp;go_at_call 29;with_reducible refine(HSt.out _ HT.out.bel).mono ?_
   rintro e w6 ⟨⟨p0,c0,q0,d0,rfl,hs,_,_⟩,hb⟩;have HT:=Nc (HT.out.next hb);have HS:=Nc hs;clear hs hb;go_wp2_with fail
   refine hK.out _ _ (HI.out _ HT.out.bel) (fun hHeld=>?_);clear hK K
   try simp only[lay]
   refine rd1 4 rfl (fun K hK=>?_);clear hHeld;go_simp;go_at_call 14;with_reducible refine(HRu.out _ p0 c0 q0 d0 HT.out.bel HS.out).mono ?_
   rintro e w7 ⟨⟨p1,c1,q1,d1,rfl,hs,_,_⟩,hb⟩;have HT:=Nc (HT.out.next hb);have HS:=Nc hs;clear hs hb;go_wp2_with fail
   refine hK.out _ _ (HI.out _ HT.out.bel) (fun hHeld=>?_);clear hK K
   try simp only[lay]
   refine tq 5 rfl ?_;refine tq 6 rfl ?_;refine tq 7 rfl ?_;refine fP 10 11 HT.out HS.out HI.out rfl rfl rfl rfl rfl rfl (by rfl) (by rfl) rfl rfl rfl rfl (by kernel_rfl) (by kernel_rfl) (by kernel_rfl) (fun hR=>?_);have HR:=Nc hR;clear hR hHeld;go_wp2_with fail
   go_meet
   exact⟨_,_,_,_,_,_,rfl,rfl,HR⟩
 case rest=>
 obtain⟨aA,bA,pA,cA,qA,dA,rfl,rfl,HRA⟩:=hcut;obtain⟨VA,hV⟩:∃ V,V=wc:=⟨_,rfl⟩;subst hV;go_wp2_with fail
 refine(nS sB _ (by decide)).mono ?_;rintro e wB ⟨⟨gB,rfl,hg,hbk⟩,hb1⟩;have hB:Below w.heap.size w (wB.alloc (.cells #[.slice (some ⟨gB,0,none⟩) 1 1,.int .u16 0,.int .u16 0,.slice none 0 0,.slice none 0 0] 33)):=((HBA.out.trans (HRA.out.bel.mono HBA.out.size)).trans (hb1.mono (HBA.out.trans (HRA.out.bel.mono HBA.out.size)).size)).alloc (Nat.le_trans (HBA.out.trans (HRA.out.bel.mono HBA.out.size)).size hb1.size) _;have hBx:=heap_alloc_new wB (.cells #[.slice (some ⟨gB,0,none⟩) 1 1,.int .u16 0,.int .u16 0,.slice none 0 0,.slice none 0 0] 33);have hBk:=aj _ (.cells #[.slice (some ⟨gB,0,none⟩) 1 1,.int .u16 0,.int .u16 0,.slice none 0 0,.slice none 0 0] 33) _ hbk;have hRA:=(HRA.out.next hb1).next ((Below.refl _ _).alloc (Nat.le_refl _) (.cells #[.slice (some ⟨gB,0,none⟩) 1 1,.int .u16 0,.int .u16 0,.slice none 0 0,.slice none 0 0] 33));clear hb1 hg hbk;go_upto_region 4 with fail
 obtain⟨WB,hW⟩:∃ W,wB.alloc (.cells #[.slice (some ⟨gB,0,none⟩) 1 1,.int .u16 0,.int .u16 0,.slice none 0 0,.slice none 0 0] 33)=W:=⟨_,rfl⟩;rw[hW] at hB hBx hBk hRA;rw[hW];obtain⟨nB,hn⟩:∃ n,wB.heap.size=n:=⟨_,rfl⟩;rw[hn] at hBx;rw[hn];have HBB:=Nc hB;have HBxB:=Nc hBx;have HBkB:=Nc hBk;have HTbB:=Nc (bF HPos.out HTab.out hB);have HRA:=Nc hRA;clear hRA;clear hB hBx hBk hW hn;go_cut [5,6] (fun v2 v3 wx=>∃ a b p c q d,v2= .pointer (some ⟨a,0,none⟩)∧v3= .pointer (some ⟨b,0,none⟩)∧Hid (fZ WB (au kE.1) kE.2.1 kE.2.2 a b p c q d wx))
 case first=>
  as_aux_lemma=>
   have HI:=Nc (fun U (hU:Below WB.heap.size WB U)=>(show U.rangeAt nB 0 (imL (jq gB) (eF 0 sB)) from aH (af HBxB.out hU) _ (fun j v hv=>by rw[← hv];simp[imL,jq,eF])));have HSt:=Nc (fun U (hU:Below WB.heap.size WB U)=>wX gB sB U (af HBkB.out hU) (bF (Nat.lt_of_lt_of_le HPos.out HBB.out.size) HTbB.out hU));have HRu:=Nc (fun U p c q d (hU:Below WB.heap.size WB U) (hs:SnH U (au (gy (eF 0 sB))) p q)=>wZ gB sB U p c q d (af HBkB.out hU) (bF (Nat.lt_of_lt_of_le HPos.out HBB.out.size) HTbB.out hU) hs);have HT:=Nc (Tr.start WB);refine wp_region_held_drew (S:=fun w'=>w'.rangeAt nB 0 (imL (jq gB) (eF 0 sB))) (by kernel_rfl) (HI.out _ HT.out.bel) (fun hHeld=>?_);obtain⟨wd,hwd⟩:∃ wd,WB.drew=wd:=⟨_,rfl⟩;rw[hwd] at hHeld HT;rw[hwd];clear hwd;refine tk 0 _ rfl (yieldsIf_load_mid (by rfl) 33 _ rfl nB 0 rfl (imL (jq gB) (eF 0 sB)) _ (fun w hw=>hw) Tryz.underlying33 rfl kQ) ?_;refine tq 1 rfl ?_;refine tk 2 _ rfl (yieldsIf_load_mid (by rfl) 33 _ rfl nB 0 rfl (imL (jq gB) (eF 0 sB)) _ (fun w hw=>hw) Tryz.underlying33 rfl kQ) ?_;refine wpAnyH_ready (rs:=[3,8,9]) (by kernel_rfl) (by simp) (AllReadyH.cons rfl (fun K hK=>?_) (AllReadyH.cons rfl (fun K hK=>?_) (AllReadyH.cons rfl (fun K hK=>?_) AllReadyH.nil)));clear hHeld;go_simp;go_at_call 29;with_reducible refine(HSt.out _ HT.out.bel).mono ?_
   rintro e w6 ⟨⟨p0,c0,q0,d0,rfl,hs,_,_⟩,hb⟩;have HT:=Nc (HT.out.next hb);have HS:=Nc hs;clear hs hb;go_wp2_with fail
   refine hK.out _ _ (HI.out _ HT.out.bel) (fun hHeld=>?_);clear hK K
   try simp only[lay]
   refine wpAnyH_ready (rs:=[4,8,9]) (by kernel_rfl) (by simp) (AllReadyH.cons rfl (fun K hK=>?_) (AllReadyH.cons rfl (fun K hK=>?_) (AllReadyH.cons rfl (fun K hK=>?_) AllReadyH.nil)));clear hHeld;go_simp;go_at_call 14;with_reducible refine(HRu.out _ p0 c0 q0 d0 HT.out.bel HS.out).mono ?_
   rintro e w7 ⟨⟨p1,c1,q1,d1,rfl,hs,_,_⟩,hb⟩;have HT:=Nc (HT.out.next hb);have HS:=Nc hs;clear hs hb;go_wp2_with fail
   refine hK.out _ _ (HI.out _ HT.out.bel) (fun hHeld=>?_);clear hK K
   try simp only[lay]
   refine tq 5 rfl ?_;refine tq 6 rfl ?_;refine tq 7 rfl ?_;refine wpAnyH_ready (rs:=[8,9]) (by kernel_rfl) (by simp) (AllReadyH.cons rfl (fun K hK=>?_) (AllReadyH.cons rfl (fun K hK=>?_) AllReadyH.nil));clear hHeld;go_simp;have HT:=Nc (HT.out.a8)
   try simp only[World.size_alloc] at HT
   have HS:=Nc (HS.out.below ((Below.refl _ _).alloc (Nat.le_refl _) (.cells zS 40)));refine hK.out _ _ (HI.out _ HT.out.bel) (fun hHeld=>?_);clear hK K
   try simp only[lay]
   refine rd1 9 rfl (fun K hK=>?_);clear hHeld;go_simp;have HT:=Nc (HT.out.a9)
   try simp only[World.size_alloc] at HT
   have HS:=Nc (HS.out.below ((Below.refl _ _).alloc (Nat.le_refl _) (.cells #[.int .i64 0,.int .u16 0] 47)));refine hK.out _ _ (HI.out _ HT.out.bel) (fun hHeld=>?_);clear hK K
   try simp only[lay]
   refine fP 10 11 HT.out HS.out HI.out rfl rfl rfl rfl rfl rfl (by rfl) (by rfl) rfl rfl rfl rfl (by kernel_rfl) (by kernel_rfl) (by kernel_rfl) (fun hR=>?_);have HR:=Nc hR;clear hR hHeld;go_wp2_with fail
   go_meet
   exact⟨_,_,_,_,_,_,rfl,rfl,HR⟩;clear hHeld;go_simp;have HT:=Nc (HT.out.a9)
   try simp only[World.size_alloc] at HT
   have HS:=Nc (HS.out.below ((Below.refl _ _).alloc (Nat.le_refl _) (.cells #[.int .i64 0,.int .u16 0] 47)));refine hK.out _ _ (HI.out _ HT.out.bel) (fun hHeld=>?_);clear hK K
   try simp only[lay]
   refine rd1 8 rfl (fun K hK=>?_);clear hHeld;go_simp;have HT:=Nc (HT.out.a8)
   try simp only[World.size_alloc] at HT
   have HS:=Nc (HS.out.below ((Below.refl _ _).alloc (Nat.le_refl _) (.cells zS 40)));refine hK.out _ _ (HI.out _ HT.out.bel) (fun hHeld=>?_);clear hK K
   try simp only[lay]
   refine fP 10 11 HT.out HS.out HI.out rfl rfl rfl rfl rfl rfl (by rfl) (by rfl) rfl rfl rfl rfl (by kernel_rfl) (by kernel_rfl) (by kernel_rfl) (fun hR=>?_);have HR:=Nc hR;clear hR hHeld;go_wp2_with fail
   go_meet
   exact⟨_,_,_,_,_,_,rfl,rfl,HR⟩;clear hHeld;go_simp;have HT:=Nc (HT.out.a8)
   try simp only[World.size_alloc] at HT
   have HS:=Nc (HS.out.below ((Below.refl _ _).alloc (Nat.le_refl _) (.cells zS 40)));refine hK.out _ _ (HI.out _ HT.out.bel) (fun hHeld=>?_);clear hK K
   try simp only[lay]
   refine wpAnyH_ready (rs:=[4,9]) (by kernel_rfl) (by simp) (AllReadyH.cons rfl (fun K hK=>?_) (AllReadyH.cons rfl (fun K hK=>?_) AllReadyH.nil));clear hHeld;go_simp;go_at_call 14;with_reducible refine(HRu.out _ p0 c0 q0 d0 HT.out.bel HS.out).mono ?_
   rintro e w7 ⟨⟨p1,c1,q1,d1,rfl,hs,_,_⟩,hb⟩;have HT:=Nc (HT.out.next hb);have HS:=Nc hs;clear hs hb;go_wp2_with fail
   refine hK.out _ _ (HI.out _ HT.out.bel) (fun hHeld=>?_);clear hK K
   try simp only[lay]
   refine tq 5 rfl ?_;refine tq 6 rfl ?_;refine tq 7 rfl ?_;refine rd1 9 rfl (fun K hK=>?_);clear hHeld;go_simp;have HT:=Nc (HT.out.a9)
   try simp only[World.size_alloc] at HT
   have HS:=Nc (HS.out.below ((Below.refl _ _).alloc (Nat.le_refl _) (.cells #[.int .i64 0,.int .u16 0] 47)));refine hK.out _ _ (HI.out _ HT.out.bel) (fun hHeld=>?_);clear hK K
   try simp only[lay]
   refine fP 10 11 HT.out HS.out HI.out rfl rfl rfl rfl rfl rfl (by rfl) (by rfl) rfl rfl rfl rfl (by kernel_rfl) (by kernel_rfl) (by kernel_rfl) (fun hR=>?_);have HR:=Nc hR;clear hR hHeld;go_wp2_with fail
   go_meet
   exact⟨_,_,_,_,_,_,rfl,rfl,HR⟩;clear hHeld;go_simp;have HT:=Nc (HT.out.a9)
   try simp only[World.size_alloc] at HT
   have HS:=Nc (HS.out.below ((Below.refl _ _).alloc (Nat.le_refl _) (.cells #[.int .i64 0,.int .u16 0] 47)));refine hK.out _ _ (HI.out _ HT.out.bel) (fun hHeld=>?_);clear hK K
   try simp only[lay]
   refine rd1 4 rfl (fun K hK=>?_);clear hHeld;go_simp;go_at_call 14;with_reducible refine(HRu.out _ p0 c0 q0 d0 HT.out.bel HS.out).mono ?_
   rintro e w7 ⟨⟨p1,c1,q1,d1,rfl,hs,_,_⟩,hb⟩;have HT:=Nc (HT.out.next hb);have HS:=Nc hs;clear hs hb;go_wp2_with fail
   refine hK.out _ _ (HI.out _ HT.out.bel) (fun hHeld=>?_);clear hK K
   try simp only[lay]
   refine tq 5 rfl ?_;refine tq 6 rfl ?_;refine tq 7 rfl ?_;refine fP 10 11 HT.out HS.out HI.out rfl rfl rfl rfl rfl rfl (by rfl) (by rfl) rfl rfl rfl rfl (by kernel_rfl) (by kernel_rfl) (by kernel_rfl) (fun hR=>?_);have HR:=Nc hR;clear hR hHeld;go_wp2_with fail
   go_meet
   exact⟨_,_,_,_,_,_,rfl,rfl,HR⟩;clear hHeld;go_simp;have HT:=Nc (HT.out.a9)
   try simp only[World.size_alloc] at HT
   have HS:=Nc (HS.out.below ((Below.refl _ _).alloc (Nat.le_refl _) (.cells #[.int .i64 0,.int .u16 0] 47)));refine hK.out _ _ (HI.out _ HT.out.bel) (fun hHeld=>?_);clear hK K
   try simp only[lay]
   refine wpAnyH_ready (rs:=[4,8]) (by kernel_rfl) (by simp) (AllReadyH.cons rfl (fun K hK=>?_) (AllReadyH.cons rfl (fun K hK=>?_) AllReadyH.nil));clear hHeld;go_simp;go_at_call 14;with_reducible refine(HRu.out _ p0 c0 q0 d0 HT.out.bel HS.out).mono ?_
   rintro e w7 ⟨⟨p1,c1,q1,d1,rfl,hs,_,_⟩,hb⟩;have HT:=Nc (HT.out.next hb);have HS:=Nc hs;clear hs hb;go_wp2_with fail
   refine hK.out _ _ (HI.out _ HT.out.bel) (fun hHeld=>?_);clear hK K
   try simp only[lay]
   refine tq 5 rfl ?_;refine tq 6 rfl ?_;refine tq 7 rfl ?_;refine rd1 8 rfl (fun K hK=>?_);clear hHeld;go_simp;have HT:=Nc (HT.out.a8)
   try simp only[World.size_alloc] at HT
   have HS:=Nc (HS.out.below ((Below.refl _ _).alloc (Nat.le_refl _) (.cells zS 40)));refine hK.out _ _ (HI.out _ HT.out.bel) (fun hHeld=>?_);clear hK K
   try simp only[lay]
   refine fP 10 11 HT.out HS.out HI.out rfl rfl rfl rfl rfl rfl (by rfl) (by rfl) rfl rfl rfl rfl (by kernel_rfl) (by kernel_rfl) (by kernel_rfl) (fun hR=>?_);have HR:=Nc hR;clear hR hHeld;go_wp2_with fail
   go_meet
   exact⟨_,_,_,_,_,_,rfl,rfl,HR⟩;clear hHeld;go_simp;have HT:=Nc (HT.out.a8)
   try simp only[World.size_alloc] at HT
   have HS:=Nc (HS.out.below ((Below.refl _ _).alloc (Nat.le_refl _) (.cells zS 40)));refine hK.out _ _ (HI.out _ HT.out.bel) (fun hHeld=>?_);clear hK K
   try simp only[lay]
   refine rd1 4 rfl (fun K hK=>?_);clear hHeld;go_simp;go_at_call 14;with_reducible refine(HRu.out _ p0 c0 q0 d0 HT.out.bel HS.out).mono ?_
   rintro e w7 ⟨⟨p1,c1,q1,d1,rfl,hs,_,_⟩,hb⟩;have HT:=Nc (HT.out.next hb);have HS:=Nc hs;clear hs hb;go_wp2_with fail
   refine hK.out _ _ (HI.out _ HT.out.bel) (fun hHeld=>?_);clear hK K
   try simp only[lay]
   refine tq 5 rfl ?_;refine tq 6 rfl ?_;refine tq 7 rfl ?_;refine fP 10 11 HT.out HS.out HI.out rfl rfl rfl rfl rfl rfl (by rfl) (by rfl) rfl rfl rfl rfl (by kernel_rfl) (by kernel_rfl) (by kernel_rfl) (fun hR=>?_);have HR:=Nc hR;clear hR hHeld;go_wp2_with fail
   go_meet
   exact⟨_,_,_,_,_,_,rfl,rfl,HR⟩;clear hHeld;go_simp;have HT:=Nc (HT.out.a8)
   try simp only[World.size_alloc] at HT
   refine hK.out _ _ (HI.out _ HT.out.bel) (fun hHeld=>?_);clear hK K
   try simp only[lay]
   refine wpAnyH_ready (rs:=[3,9]) (by kernel_rfl) (by simp) (AllReadyH.cons rfl (fun K hK=>?_) (AllReadyH.cons rfl (fun K hK=>?_) AllReadyH.nil));clear hHeld;go_simp;go_at_call 29;with_reducible refine(HSt.out _ HT.out.bel).mono ?_
   rintro e w6 ⟨⟨p0,c0,q0,d0,rfl,hs,_,_⟩,hb⟩;have HT:=Nc (HT.out.next hb);have HS:=Nc hs;clear hs hb;go_wp2_with fail
   refine hK.out _ _ (HI.out _ HT.out.bel) (fun hHeld=>?_);clear hK K
   try simp only[lay]
   refine wpAnyH_ready (rs:=[4,9]) (by kernel_rfl) (by simp) (AllReadyH.cons rfl (fun K hK=>?_) (AllReadyH.cons rfl (fun K hK=>?_) AllReadyH.nil));clear hHeld;go_simp;go_at_call 14;with_reducible refine(HRu.out _ p0 c0 q0 d0 HT.out.bel HS.out).mono ?_
   rintro e w7 ⟨⟨p1,c1,q1,d1,rfl,hs,_,_⟩,hb⟩;have HT:=Nc (HT.out.next hb);have HS:=Nc hs;clear hs hb;go_wp2_with fail
   refine hK.out _ _ (HI.out _ HT.out.bel) (fun hHeld=>?_);clear hK K
   try simp only[lay]
   refine tq 5 rfl ?_;refine tq 6 rfl ?_;refine tq 7 rfl ?_;refine rd1 9 rfl (fun K hK=>?_);clear hHeld;go_simp;have HT:=Nc (HT.out.a9)
   try simp only[World.size_alloc] at HT
   have HS:=Nc (HS.out.below ((Below.refl _ _).alloc (Nat.le_refl _) (.cells #[.int .i64 0,.int .u16 0] 47)));refine hK.out _ _ (HI.out _ HT.out.bel) (fun hHeld=>?_);clear hK K
   try simp only[lay]
   refine fP 10 11 HT.out HS.out HI.out rfl rfl rfl rfl rfl rfl (by rfl) (by rfl) rfl rfl rfl rfl (by kernel_rfl) (by kernel_rfl) (by kernel_rfl) (fun hR=>?_);have HR:=Nc hR;clear hR hHeld;go_wp2_with fail
   go_meet
   exact⟨_,_,_,_,_,_,rfl,rfl,HR⟩;clear hHeld;go_simp;have HT:=Nc (HT.out.a9)
   try simp only[World.size_alloc] at HT
   have HS:=Nc (HS.out.below ((Below.refl _ _).alloc (Nat.le_refl _) (.cells #[.int .i64 0,.int .u16 0] 47)));refine hK.out _ _ (HI.out _ HT.out.bel) (fun hHeld=>?_);clear hK K
   try simp only[lay]
   refine rd1 4 rfl (fun K hK=>?_);clear hHeld;go_simp;go_at_call 14;with_reducible refine(HRu.out _ p0 c0 q0 d0 HT.out.bel HS.out).mono ?_
   rintro e w7 ⟨⟨p1,c1,q1,d1,rfl,hs,_,_⟩,hb⟩;have HT:=Nc (HT.out.next hb);have HS:=Nc hs;clear hs hb;go_wp2_with fail
   refine hK.out _ _ (HI.out _ HT.out.bel) (fun hHeld=>?_);clear hK K
   try simp only[lay]
   refine tq 5 rfl ?_;refine tq 6 rfl ?_;refine tq 7 rfl ?_;refine fP 10 11 HT.out HS.out HI.out rfl rfl rfl rfl rfl rfl (by rfl) (by rfl) rfl rfl rfl rfl (by kernel_rfl) (by kernel_rfl) (by kernel_rfl) (fun hR=>?_);have HR:=Nc hR;clear hR hHeld;go_wp2_with fail
   go_meet
   exact⟨_,_,_,_,_,_,rfl,rfl,HR⟩;clear hHeld;go_simp;have HT:=Nc (HT.out.a9)
   try simp only[World.size_alloc] at HT
   refine hK.out _ _ (HI.out _ HT.out.bel) (fun hHeld=>?_);clear hK K
   try simp only[lay]
   refine rd1 3 rfl (fun K hK=>?_);clear hHeld;go_simp;go_at_call 29;with_reducible refine(HSt.out _ HT.out.bel).mono ?_
   rintro e w6 ⟨⟨p0,c0,q0,d0,rfl,hs,_,_⟩,hb⟩;have HT:=Nc (HT.out.next hb);have HS:=Nc hs;clear hs hb;go_wp2_with fail
   refine hK.out _ _ (HI.out _ HT.out.bel) (fun hHeld=>?_);clear hK K
   try simp only[lay]
   refine rd1 4 rfl (fun K hK=>?_);clear hHeld;go_simp;go_at_call 14;with_reducible refine(HRu.out _ p0 c0 q0 d0 HT.out.bel HS.out).mono ?_
   rintro e w7 ⟨⟨p1,c1,q1,d1,rfl,hs,_,_⟩,hb⟩;have HT:=Nc (HT.out.next hb);have HS:=Nc hs;clear hs hb;go_wp2_with fail
   refine hK.out _ _ (HI.out _ HT.out.bel) (fun hHeld=>?_);clear hK K
   try simp only[lay]
   refine tq 5 rfl ?_;refine tq 6 rfl ?_;refine tq 7 rfl ?_;refine fP 10 11 HT.out HS.out HI.out rfl rfl rfl rfl rfl rfl (by rfl) (by rfl) rfl rfl rfl rfl (by kernel_rfl) (by kernel_rfl) (by kernel_rfl) (fun hR=>?_);have HR:=Nc hR;clear hR hHeld;go_wp2_with fail
   go_meet
   exact⟨_,_,_,_,_,_,rfl,rfl,HR⟩;clear hHeld;go_simp;have HT:=Nc (HT.out.a9)
   try simp only[World.size_alloc] at HT
   refine hK.out _ _ (HI.out _ HT.out.bel) (fun hHeld=>?_);clear hK K
   try simp only[lay]
   refine wpAnyH_ready (rs:=[3,8]) (by kernel_rfl) (by simp) (AllReadyH.cons rfl (fun K hK=>?_) (AllReadyH.cons rfl (fun K hK=>?_) AllReadyH.nil));clear hHeld;go_simp;go_at_call 29;with_reducible refine(HSt.out _ HT.out.bel).mono ?_
   rintro e w6 ⟨⟨p0,c0,q0,d0,rfl,hs,_,_⟩,hb⟩;have HT:=Nc (HT.out.next hb);have HS:=Nc hs;clear hs hb;go_wp2_with fail
   refine hK.out _ _ (HI.out _ HT.out.bel) (fun hHeld=>?_);clear hK K
   try simp only[lay]
   refine wpAnyH_ready (rs:=[4,8]) (by kernel_rfl) (by simp) (AllReadyH.cons rfl (fun K hK=>?_) (AllReadyH.cons rfl (fun K hK=>?_) AllReadyH.nil));clear hHeld;go_simp;go_at_call 14;with_reducible refine(HRu.out _ p0 c0 q0 d0 HT.out.bel HS.out).mono ?_
   rintro e w7 ⟨⟨p1,c1,q1,d1,rfl,hs,_,_⟩,hb⟩;have HT:=Nc (HT.out.next hb);have HS:=Nc hs;clear hs hb;go_wp2_with fail
   refine hK.out _ _ (HI.out _ HT.out.bel) (fun hHeld=>?_);clear hK K
   try simp only[lay]
   refine tq 5 rfl ?_;refine tq 6 rfl ?_;refine tq 7 rfl ?_;refine rd1 8 rfl (fun K hK=>?_);clear hHeld;go_simp;have HT:=Nc (HT.out.a8)
   try simp only[World.size_alloc] at HT
   have HS:=Nc (HS.out.below ((Below.refl _ _).alloc (Nat.le_refl _) (.cells zS 40)));refine hK.out _ _ (HI.out _ HT.out.bel) (fun hHeld=>?_);clear hK K
   try simp only[lay]
   refine fP 10 11 HT.out HS.out HI.out rfl rfl rfl rfl rfl rfl (by rfl) (by rfl) rfl rfl rfl rfl (by kernel_rfl) (by kernel_rfl) (by kernel_rfl) (fun hR=>?_);have HR:=Nc hR;clear hR hHeld;go_wp2_with fail
   go_meet
   exact⟨_,_,_,_,_,_,rfl,rfl,HR⟩;clear hHeld;go_simp;have HT:=Nc (HT.out.a8)
   try simp only[World.size_alloc] at HT
   have HS:=Nc (HS.out.below ((Below.refl _ _).alloc (Nat.le_refl _) (.cells zS 40)));refine hK.out _ _ (HI.out _ HT.out.bel) (fun hHeld=>?_);clear hK K
   try simp only[lay]
   refine rd1 4 rfl (fun K hK=>?_);clear hHeld;go_simp;go_at_call 14;with_reducible refine(HRu.out _ p0 c0 q0 d0 HT.out.bel HS.out).mono ?_
   rintro e w7 ⟨⟨p1,c1,q1,d1,rfl,hs,_,_⟩,hb⟩;have HT:=Nc (HT.out.next hb);have HS:=Nc hs;clear hs hb;go_wp2_with fail
   refine hK.out _ _ (HI.out _ HT.out.bel) (fun hHeld=>?_);clear hK K
   try simp only[lay]
   refine tq 5 rfl ?_;refine tq 6 rfl ?_;refine tq 7 rfl ?_;refine fP 10 11 HT.out HS.out HI.out rfl rfl rfl rfl rfl rfl (by rfl) (by rfl) rfl rfl rfl rfl (by kernel_rfl) (by kernel_rfl) (by kernel_rfl) (fun hR=>?_);have HR:=Nc hR;clear hR hHeld;go_wp2_with fail
   go_meet
   exact⟨_,_,_,_,_,_,rfl,rfl,HR⟩;clear hHeld;go_simp;have HT:=Nc (HT.out.a8)
   try simp only[World.size_alloc] at HT
   refine hK.out _ _ (HI.out _ HT.out.bel) (fun hHeld=>?_);clear hK K
   try simp only[lay]
   refine rd1 3 rfl (fun K hK=>?_);clear hHeld;go_simp;go_at_call 29;with_reducible refine(HSt.out _ HT.out.bel).mono ?_
   rintro e w6 ⟨⟨p0,c0,q0,d0,rfl,hs,_,_⟩,hb⟩;have HT:=Nc (HT.out.next hb);have HS:=Nc hs;clear hs hb;go_wp2_with fail
   refine hK.out _ _ (HI.out _ HT.out.bel) (fun hHeld=>?_);clear hK K
   try simp only[lay]
   refine rd1 4 rfl (fun K hK=>?_);clear hHeld;go_simp;go_at_call 14;with_reducible refine(HRu.out _ p0 c0 q0 d0 HT.out.bel HS.out).mono ?_
   rintro e w7 ⟨⟨p1,c1,q1,d1,rfl,hs,_,_⟩,hb⟩;have HT:=Nc (HT.out.next hb);have HS:=Nc hs;clear hs hb;go_wp2_with fail
   refine hK.out _ _ (HI.out _ HT.out.bel) (fun hHeld=>?_);clear hK K
   try simp only[lay]
   refine tq 5 rfl ?_;refine tq 6 rfl ?_;refine tq 7 rfl ?_;refine fP 10 11 HT.out HS.out HI.out rfl rfl rfl rfl rfl rfl (by rfl) (by rfl) rfl rfl rfl rfl (by kernel_rfl) (by kernel_rfl) (by kernel_rfl) (fun hR=>?_);have HR:=Nc hR;clear hR hHeld;go_wp2_with fail
   go_meet
   exact⟨_,_,_,_,_,_,rfl,rfl,HR⟩
 case rest=>
 obtain⟨aB,bB,pB,cB,qB,dB,rfl,rfl,HRB⟩:=hcut;obtain⟨VB,hV⟩:∃ V,V=wc:=⟨_,rfl⟩;subst hV;have HRA:=Nc (HRA.out.next HRB.out.bel);go_wp2_with fail
 refine(nS sC _ (by decide)).mono ?_;rintro e wC ⟨⟨gC,rfl,hg,hbk⟩,hb1⟩;have hB:Below w.heap.size w (wC.alloc (.cells #[.slice (some ⟨gC,0,none⟩) 1 1,.int .u16 0,.int .u16 0,.slice none 0 0,.slice none 0 0] 33)):=((HBB.out.trans (HRB.out.bel.mono HBB.out.size)).trans (hb1.mono (HBB.out.trans (HRB.out.bel.mono HBB.out.size)).size)).alloc (Nat.le_trans (HBB.out.trans (HRB.out.bel.mono HBB.out.size)).size hb1.size) _;have hBx:=heap_alloc_new wC (.cells #[.slice (some ⟨gC,0,none⟩) 1 1,.int .u16 0,.int .u16 0,.slice none 0 0,.slice none 0 0] 33);have hBk:=aj _ (.cells #[.slice (some ⟨gC,0,none⟩) 1 1,.int .u16 0,.int .u16 0,.slice none 0 0,.slice none 0 0] 33) _ hbk;have hRA:=(HRA.out.next hb1).next ((Below.refl _ _).alloc (Nat.le_refl _) (.cells #[.slice (some ⟨gC,0,none⟩) 1 1,.int .u16 0,.int .u16 0,.slice none 0 0,.slice none 0 0] 33));have hRB:=(HRB.out.next hb1).next ((Below.refl _ _).alloc (Nat.le_refl _) (.cells #[.slice (some ⟨gC,0,none⟩) 1 1,.int .u16 0,.int .u16 0,.slice none 0 0,.slice none 0 0] 33));clear hb1 hg hbk;go_upto_region 6 with fail
 obtain⟨WC,hW⟩:∃ W,wC.alloc (.cells #[.slice (some ⟨gC,0,none⟩) 1 1,.int .u16 0,.int .u16 0,.slice none 0 0,.slice none 0 0] 33)=W:=⟨_,rfl⟩;rw[hW] at hB hBx hBk hRA hRB;rw[hW];obtain⟨nC,hn⟩:∃ n,wC.heap.size=n:=⟨_,rfl⟩;rw[hn] at hBx;rw[hn];have HBC:=Nc hB;have HBxC:=Nc hBx;have HBkC:=Nc hBk;have HTbC:=Nc (bF HPos.out HTab.out hB);have HRA:=Nc hRA;clear hRA;have HRB:=Nc hRB;clear hRB;clear hB hBx hBk hW hn;go_cut [8,9] (fun v2 v3 wx=>∃ a b p c q d,v2= .pointer (some ⟨a,0,none⟩)∧v3= .pointer (some ⟨b,0,none⟩)∧Hid (fZ WC (au lJ.1) lJ.2.1 lJ.2.2 a b p c q d wx))
 case first=>
  as_aux_lemma=>
   have HI:=Nc (fun U (hU:Below WC.heap.size WC U)=>(show U.rangeAt nC 0 (imL (jq gC) (eF 0 sC)) from aH (af HBxC.out hU) _ (fun j v hv=>by rw[← hv];simp[imL,jq,eF])));have HSt:=Nc (fun U (hU:Below WC.heap.size WC U)=>wX gC sC U (af HBkC.out hU) (bF (Nat.lt_of_lt_of_le HPos.out HBC.out.size) HTbC.out hU));have HRu:=Nc (fun U p c q d (hU:Below WC.heap.size WC U) (hs:SnH U (au (gy (eF 0 sC))) p q)=>wZ gC sC U p c q d (af HBkC.out hU) (bF (Nat.lt_of_lt_of_le HPos.out HBC.out.size) HTbC.out hU) hs);have HT:=Nc (Tr.start WC);refine wp_region_held_drew (S:=fun w'=>w'.rangeAt nC 0 (imL (jq gC) (eF 0 sC))) (by kernel_rfl) (HI.out _ HT.out.bel) (fun hHeld=>?_);obtain⟨wd,hwd⟩:∃ wd,WC.drew=wd:=⟨_,rfl⟩;rw[hwd] at hHeld HT;rw[hwd];clear hwd;refine tk 0 _ rfl (yieldsIf_load_mid (by rfl) 33 _ rfl nC 0 rfl (imL (jq gC) (eF 0 sC)) _ (fun w hw=>hw) Tryz.underlying33 rfl kQ) ?_;refine tq 1 rfl ?_;refine tk 2 _ rfl (yieldsIf_load_mid (by rfl) 33 _ rfl nC 0 rfl (imL (jq gC) (eF 0 sC)) _ (fun w hw=>hw) Tryz.underlying33 rfl kQ) ?_;refine wpAnyH_ready (rs:=[3,8,9]) (by kernel_rfl) (by simp) (AllReadyH.cons rfl (fun K hK=>?_) (AllReadyH.cons rfl (fun K hK=>?_) (AllReadyH.cons rfl (fun K hK=>?_) AllReadyH.nil)));clear hHeld;go_simp;go_at_call 29;with_reducible refine(HSt.out _ HT.out.bel).mono ?_
   rintro e w6 ⟨⟨p0,c0,q0,d0,rfl,hs,_,_⟩,hb⟩;have HT:=Nc (HT.out.next hb);have HS:=Nc hs;clear hs hb;go_wp2_with fail
   refine hK.out _ _ (HI.out _ HT.out.bel) (fun hHeld=>?_);clear hK K
   try simp only[lay]
   refine wpAnyH_ready (rs:=[4,8,9]) (by kernel_rfl) (by simp) (AllReadyH.cons rfl (fun K hK=>?_) (AllReadyH.cons rfl (fun K hK=>?_) (AllReadyH.cons rfl (fun K hK=>?_) AllReadyH.nil)));clear hHeld;go_simp;go_at_call 14;with_reducible refine(HRu.out _ p0 c0 q0 d0 HT.out.bel HS.out).mono ?_
   rintro e w7 ⟨⟨p1,c1,q1,d1,rfl,hs,_,_⟩,hb⟩;have HT:=Nc (HT.out.next hb);have HS:=Nc hs;clear hs hb;go_wp2_with fail
   refine hK.out _ _ (HI.out _ HT.out.bel) (fun hHeld=>?_);clear hK K
   try simp only[lay]
   refine tq 5 rfl ?_;refine tq 6 rfl ?_;refine tq 7 rfl ?_;refine wpAnyH_ready (rs:=[8,9]) (by kernel_rfl) (by simp) (AllReadyH.cons rfl (fun K hK=>?_) (AllReadyH.cons rfl (fun K hK=>?_) AllReadyH.nil));clear hHeld;go_simp;have HT:=Nc (HT.out.a8)
   try simp only[World.size_alloc] at HT
   have HS:=Nc (HS.out.below ((Below.refl _ _).alloc (Nat.le_refl _) (.cells zS 40)));refine hK.out _ _ (HI.out _ HT.out.bel) (fun hHeld=>?_);clear hK K
   try simp only[lay]
   refine rd1 9 rfl (fun K hK=>?_);clear hHeld;go_simp;have HT:=Nc (HT.out.a9)
   try simp only[World.size_alloc] at HT
   have HS:=Nc (HS.out.below ((Below.refl _ _).alloc (Nat.le_refl _) (.cells #[.int .i64 0,.int .u16 0] 47)));refine hK.out _ _ (HI.out _ HT.out.bel) (fun hHeld=>?_);clear hK K
   try simp only[lay]
   refine fP 10 11 HT.out HS.out HI.out rfl rfl rfl rfl rfl rfl (by rfl) (by rfl) rfl rfl rfl rfl (by kernel_rfl) (by kernel_rfl) (by kernel_rfl) (fun hR=>?_);have HR:=Nc hR;clear hR hHeld;go_wp2_with fail
   go_meet
   exact⟨_,_,_,_,_,_,rfl,rfl,HR⟩;clear hHeld;go_simp;have HT:=Nc (HT.out.a9)
   try simp only[World.size_alloc] at HT
   have HS:=Nc (HS.out.below ((Below.refl _ _).alloc (Nat.le_refl _) (.cells #[.int .i64 0,.int .u16 0] 47)));refine hK.out _ _ (HI.out _ HT.out.bel) (fun hHeld=>?_);clear hK K
   try simp only[lay]
   refine rd1 8 rfl (fun K hK=>?_);clear hHeld;go_simp;have HT:=Nc (HT.out.a8)
   try simp only[World.size_alloc] at HT
   have HS:=Nc (HS.out.below ((Below.refl _ _).alloc (Nat.le_refl _) (.cells zS 40)));refine hK.out _ _ (HI.out _ HT.out.bel) (fun hHeld=>?_);clear hK K
   try simp only[lay]
   refine fP 10 11 HT.out HS.out HI.out rfl rfl rfl rfl rfl rfl (by rfl) (by rfl) rfl rfl rfl rfl (by kernel_rfl) (by kernel_rfl) (by kernel_rfl) (fun hR=>?_);have HR:=Nc hR;clear hR hHeld;go_wp2_with fail
   go_meet
   exact⟨_,_,_,_,_,_,rfl,rfl,HR⟩;clear hHeld;go_simp;have HT:=Nc (HT.out.a8)
   try simp only[World.size_alloc] at HT
   have HS:=Nc (HS.out.below ((Below.refl _ _).alloc (Nat.le_refl _) (.cells zS 40)));refine hK.out _ _ (HI.out _ HT.out.bel) (fun hHeld=>?_);clear hK K
   try simp only[lay]
   refine wpAnyH_ready (rs:=[4,9]) (by kernel_rfl) (by simp) (AllReadyH.cons rfl (fun K hK=>?_) (AllReadyH.cons rfl (fun K hK=>?_) AllReadyH.nil));clear hHeld;go_simp;go_at_call 14;with_reducible refine(HRu.out _ p0 c0 q0 d0 HT.out.bel HS.out).mono ?_
   rintro e w7 ⟨⟨p1,c1,q1,d1,rfl,hs,_,_⟩,hb⟩;have HT:=Nc (HT.out.next hb);have HS:=Nc hs;clear hs hb;go_wp2_with fail
   refine hK.out _ _ (HI.out _ HT.out.bel) (fun hHeld=>?_);clear hK K
   try simp only[lay]
   refine tq 5 rfl ?_;refine tq 6 rfl ?_;refine tq 7 rfl ?_;refine rd1 9 rfl (fun K hK=>?_);clear hHeld;go_simp;have HT:=Nc (HT.out.a9)
   try simp only[World.size_alloc] at HT
   have HS:=Nc (HS.out.below ((Below.refl _ _).alloc (Nat.le_refl _) (.cells #[.int .i64 0,.int .u16 0] 47)));refine hK.out _ _ (HI.out _ HT.out.bel) (fun hHeld=>?_);clear hK K
   try simp only[lay]
   refine fP 10 11 HT.out HS.out HI.out rfl rfl rfl rfl rfl rfl (by rfl) (by rfl) rfl rfl rfl rfl (by kernel_rfl) (by kernel_rfl) (by kernel_rfl) (fun hR=>?_);have HR:=Nc hR;clear hR hHeld;go_wp2_with fail
   go_meet
   exact⟨_,_,_,_,_,_,rfl,rfl,HR⟩;clear hHeld;go_simp;have HT:=Nc (HT.out.a9)
   try simp only[World.size_alloc] at HT
   have HS:=Nc (HS.out.below ((Below.refl _ _).alloc (Nat.le_refl _) (.cells #[.int .i64 0,.int .u16 0] 47)));refine hK.out _ _ (HI.out _ HT.out.bel) (fun hHeld=>?_);clear hK K
   try simp only[lay]
   refine rd1 4 rfl (fun K hK=>?_);clear hHeld;go_simp;go_at_call 14;with_reducible refine(HRu.out _ p0 c0 q0 d0 HT.out.bel HS.out).mono ?_
   rintro e w7 ⟨⟨p1,c1,q1,d1,rfl,hs,_,_⟩,hb⟩;have HT:=Nc (HT.out.next hb);have HS:=Nc hs;clear hs hb;go_wp2_with fail
   refine hK.out _ _ (HI.out _ HT.out.bel) (fun hHeld=>?_);clear hK K
   try simp only[lay]
   refine tq 5 rfl ?_;refine tq 6 rfl ?_;refine tq 7 rfl ?_;refine fP 10 11 HT.out HS.out HI.out rfl rfl rfl rfl rfl rfl (by rfl) (by rfl) rfl rfl rfl rfl (by kernel_rfl) (by kernel_rfl) (by kernel_rfl) (fun hR=>?_);have HR:=Nc hR;clear hR hHeld;go_wp2_with fail
   go_meet
   exact⟨_,_,_,_,_,_,rfl,rfl,HR⟩;clear hHeld;go_simp;have HT:=Nc (HT.out.a9)
   try simp only[World.size_alloc] at HT
   have HS:=Nc (HS.out.below ((Below.refl _ _).alloc (Nat.le_refl _) (.cells #[.int .i64 0,.int .u16 0] 47)));refine hK.out _ _ (HI.out _ HT.out.bel) (fun hHeld=>?_);clear hK K
   try simp only[lay]
   refine wpAnyH_ready (rs:=[4,8]) (by kernel_rfl) (by simp) (AllReadyH.cons rfl (fun K hK=>?_) (AllReadyH.cons rfl (fun K hK=>?_) AllReadyH.nil));clear hHeld;go_simp;go_at_call 14;with_reducible refine(HRu.out _ p0 c0 q0 d0 HT.out.bel HS.out).mono ?_
   rintro e w7 ⟨⟨p1,c1,q1,d1,rfl,hs,_,_⟩,hb⟩;have HT:=Nc (HT.out.next hb);have HS:=Nc hs;clear hs hb;go_wp2_with fail
   refine hK.out _ _ (HI.out _ HT.out.bel) (fun hHeld=>?_);clear hK K
   try simp only[lay]
   refine tq 5 rfl ?_;refine tq 6 rfl ?_;refine tq 7 rfl ?_;refine rd1 8 rfl (fun K hK=>?_);clear hHeld;go_simp;have HT:=Nc (HT.out.a8)
   try simp only[World.size_alloc] at HT
   have HS:=Nc (HS.out.below ((Below.refl _ _).alloc (Nat.le_refl _) (.cells zS 40)));refine hK.out _ _ (HI.out _ HT.out.bel) (fun hHeld=>?_);clear hK K
   try simp only[lay]
   refine fP 10 11 HT.out HS.out HI.out rfl rfl rfl rfl rfl rfl (by rfl) (by rfl) rfl rfl rfl rfl (by kernel_rfl) (by kernel_rfl) (by kernel_rfl) (fun hR=>?_);have HR:=Nc hR;clear hR hHeld;go_wp2_with fail
   go_meet
   exact⟨_,_,_,_,_,_,rfl,rfl,HR⟩;clear hHeld;go_simp;have HT:=Nc (HT.out.a8)
   try simp only[World.size_alloc] at HT
   have HS:=Nc (HS.out.below ((Below.refl _ _).alloc (Nat.le_refl _) (.cells zS 40)));refine hK.out _ _ (HI.out _ HT.out.bel) (fun hHeld=>?_);clear hK K
   try simp only[lay]
   refine rd1 4 rfl (fun K hK=>?_);clear hHeld;go_simp;go_at_call 14;with_reducible refine(HRu.out _ p0 c0 q0 d0 HT.out.bel HS.out).mono ?_
   rintro e w7 ⟨⟨p1,c1,q1,d1,rfl,hs,_,_⟩,hb⟩;have HT:=Nc (HT.out.next hb);have HS:=Nc hs;clear hs hb;go_wp2_with fail
   refine hK.out _ _ (HI.out _ HT.out.bel) (fun hHeld=>?_);clear hK K
   try simp only[lay]
   refine tq 5 rfl ?_;refine tq 6 rfl ?_;refine tq 7 rfl ?_;refine fP 10 11 HT.out HS.out HI.out rfl rfl rfl rfl rfl rfl (by rfl) (by rfl) rfl rfl rfl rfl (by kernel_rfl) (by kernel_rfl) (by kernel_rfl) (fun hR=>?_);have HR:=Nc hR;clear hR hHeld;go_wp2_with fail
   go_meet
   exact⟨_,_,_,_,_,_,rfl,rfl,HR⟩;clear hHeld;go_simp;have HT:=Nc (HT.out.a8)
   try simp only[World.size_alloc] at HT
   refine hK.out _ _ (HI.out _ HT.out.bel) (fun hHeld=>?_);clear hK K
   try simp only[lay]
   refine wpAnyH_ready (rs:=[3,9]) (by kernel_rfl) (by simp) (AllReadyH.cons rfl (fun K hK=>?_) (AllReadyH.cons rfl (fun K hK=>?_) AllReadyH.nil));clear hHeld;go_simp;go_at_call 29;with_reducible refine(HSt.out _ HT.out.bel).mono ?_
   rintro e w6 ⟨⟨p0,c0,q0,d0,rfl,hs,_,_⟩,hb⟩;have HT:=Nc (HT.out.next hb);have HS:=Nc hs;clear hs hb;go_wp2_with fail
   refine hK.out _ _ (HI.out _ HT.out.bel) (fun hHeld=>?_);clear hK K
   try simp only[lay]
   refine wpAnyH_ready (rs:=[4,9]) (by kernel_rfl) (by simp) (AllReadyH.cons rfl (fun K hK=>?_) (AllReadyH.cons rfl (fun K hK=>?_) AllReadyH.nil));clear hHeld;go_simp;go_at_call 14;with_reducible refine(HRu.out _ p0 c0 q0 d0 HT.out.bel HS.out).mono ?_
   rintro e w7 ⟨⟨p1,c1,q1,d1,rfl,hs,_,_⟩,hb⟩;have HT:=Nc (HT.out.next hb);have HS:=Nc hs;clear hs hb;go_wp2_with fail
   refine hK.out _ _ (HI.out _ HT.out.bel) (fun hHeld=>?_);clear hK K
   try simp only[lay]
   refine tq 5 rfl ?_;refine tq 6 rfl ?_;refine tq 7 rfl ?_;refine rd1 9 rfl (fun K hK=>?_);clear hHeld;go_simp;have HT:=Nc (HT.out.a9)
   try simp only[World.size_alloc] at HT
   have HS:=Nc (HS.out.below ((Below.refl _ _).alloc (Nat.le_refl _) (.cells #[.int .i64 0,.int .u16 0] 47)));refine hK.out _ _ (HI.out _ HT.out.bel) (fun hHeld=>?_);clear hK K
   try simp only[lay]
   refine fP 10 11 HT.out HS.out HI.out rfl rfl rfl rfl rfl rfl (by rfl) (by rfl) rfl rfl rfl rfl (by kernel_rfl) (by kernel_rfl) (by kernel_rfl) (fun hR=>?_);have HR:=Nc hR;clear hR hHeld;go_wp2_with fail
   go_meet
   exact⟨_,_,_,_,_,_,rfl,rfl,HR⟩;clear hHeld;go_simp;have HT:=Nc (HT.out.a9)
   try simp only[World.size_alloc] at HT
   have HS:=Nc (HS.out.below ((Below.refl _ _).alloc (Nat.le_refl _) (.cells #[.int .i64 0,.int .u16 0] 47)));refine hK.out _ _ (HI.out _ HT.out.bel) (fun hHeld=>?_);clear hK K
   try simp only[lay]
   refine rd1 4 rfl (fun K hK=>?_);clear hHeld;go_simp;go_at_call 14;with_reducible refine(HRu.out _ p0 c0 q0 d0 HT.out.bel HS.out).mono ?_
   rintro e w7 ⟨⟨p1,c1,q1,d1,rfl,hs,_,_⟩,hb⟩;have HT:=Nc (HT.out.next hb);have HS:=Nc hs;clear hs hb;go_wp2_with fail
   refine hK.out _ _ (HI.out _ HT.out.bel) (fun hHeld=>?_);clear hK K
   try simp only[lay]
   refine tq 5 rfl ?_;refine tq 6 rfl ?_;refine tq 7 rfl ?_;refine fP 10 11 HT.out HS.out HI.out rfl rfl rfl rfl rfl rfl (by rfl) (by rfl) rfl rfl rfl rfl (by kernel_rfl) (by kernel_rfl) (by kernel_rfl) (fun hR=>?_);have HR:=Nc hR;clear hR hHeld;go_wp2_with fail
   go_meet
   exact⟨_,_,_,_,_,_,rfl,rfl,HR⟩;clear hHeld;go_simp;have HT:=Nc (HT.out.a9)
   try simp only[World.size_alloc] at HT
   refine hK.out _ _ (HI.out _ HT.out.bel) (fun hHeld=>?_);clear hK K
   try simp only[lay]
   refine rd1 3 rfl (fun K hK=>?_);clear hHeld;go_simp;go_at_call 29;with_reducible refine(HSt.out _ HT.out.bel).mono ?_
   rintro e w6 ⟨⟨p0,c0,q0,d0,rfl,hs,_,_⟩,hb⟩;have HT:=Nc (HT.out.next hb);have HS:=Nc hs;clear hs hb;go_wp2_with fail
   refine hK.out _ _ (HI.out _ HT.out.bel) (fun hHeld=>?_);clear hK K
   try simp only[lay]
   refine rd1 4 rfl (fun K hK=>?_);clear hHeld;go_simp;go_at_call 14;with_reducible refine(HRu.out _ p0 c0 q0 d0 HT.out.bel HS.out).mono ?_
   rintro e w7 ⟨⟨p1,c1,q1,d1,rfl,hs,_,_⟩,hb⟩;have HT:=Nc (HT.out.next hb);have HS:=Nc hs;clear hs hb;go_wp2_with fail
   refine hK.out _ _ (HI.out _ HT.out.bel) (fun hHeld=>?_);clear hK K
   try simp only[lay]
   refine tq 5 rfl ?_;refine tq 6 rfl ?_;refine tq 7 rfl ?_;refine fP 10 11 HT.out HS.out HI.out rfl rfl rfl rfl rfl rfl (by rfl) (by rfl) rfl rfl rfl rfl (by kernel_rfl) (by kernel_rfl) (by kernel_rfl) (fun hR=>?_);have HR:=Nc hR;clear hR hHeld;go_wp2_with fail
   go_meet
   exact⟨_,_,_,_,_,_,rfl,rfl,HR⟩;clear hHeld;go_simp;have HT:=Nc (HT.out.a9)
   try simp only[World.size_alloc] at HT
   refine hK.out _ _ (HI.out _ HT.out.bel) (fun hHeld=>?_);clear hK K
   try simp only[lay]
   refine wpAnyH_ready (rs:=[3,8]) (by kernel_rfl) (by simp) (AllReadyH.cons rfl (fun K hK=>?_) (AllReadyH.cons rfl (fun K hK=>?_) AllReadyH.nil));clear hHeld;go_simp;go_at_call 29;with_reducible refine(HSt.out _ HT.out.bel).mono ?_
   rintro e w6 ⟨⟨p0,c0,q0,d0,rfl,hs,_,_⟩,hb⟩;have HT:=Nc (HT.out.next hb);have HS:=Nc hs;clear hs hb;go_wp2_with fail
   refine hK.out _ _ (HI.out _ HT.out.bel) (fun hHeld=>?_);clear hK K
   try simp only[lay]
   refine wpAnyH_ready (rs:=[4,8]) (by kernel_rfl) (by simp) (AllReadyH.cons rfl (fun K hK=>?_) (AllReadyH.cons rfl (fun K hK=>?_) AllReadyH.nil));clear hHeld;go_simp;go_at_call 14;with_reducible refine(HRu.out _ p0 c0 q0 d0 HT.out.bel HS.out).mono ?_
   rintro e w7 ⟨⟨p1,c1,q1,d1,rfl,hs,_,_⟩,hb⟩;have HT:=Nc (HT.out.next hb);have HS:=Nc hs;clear hs hb;go_wp2_with fail
   refine hK.out _ _ (HI.out _ HT.out.bel) (fun hHeld=>?_);clear hK K
   try simp only[lay]
   refine tq 5 rfl ?_;refine tq 6 rfl ?_;refine tq 7 rfl ?_;refine rd1 8 rfl (fun K hK=>?_);clear hHeld;go_simp;have HT:=Nc (HT.out.a8)
   try simp only[World.size_alloc] at HT
   have HS:=Nc (HS.out.below ((Below.refl _ _).alloc (Nat.le_refl _) (.cells zS 40)));refine hK.out _ _ (HI.out _ HT.out.bel) (fun hHeld=>?_);clear hK K
   try simp only[lay]
   refine fP 10 11 HT.out HS.out HI.out rfl rfl rfl rfl rfl rfl (by rfl) (by rfl) rfl rfl rfl rfl (by kernel_rfl) (by kernel_rfl) (by kernel_rfl) (fun hR=>?_);have HR:=Nc hR;clear hR hHeld;go_wp2_with fail
   go_meet
   exact⟨_,_,_,_,_,_,rfl,rfl,HR⟩;clear hHeld;go_simp;have HT:=Nc (HT.out.a8)
   try simp only[World.size_alloc] at HT
   have HS:=Nc (HS.out.below ((Below.refl _ _).alloc (Nat.le_refl _) (.cells zS 40)));refine hK.out _ _ (HI.out _ HT.out.bel) (fun hHeld=>?_);clear hK K
   try simp only[lay]
   refine rd1 4 rfl (fun K hK=>?_);clear hHeld;go_simp;go_at_call 14;with_reducible refine(HRu.out _ p0 c0 q0 d0 HT.out.bel HS.out).mono ?_
   rintro e w7 ⟨⟨p1,c1,q1,d1,rfl,hs,_,_⟩,hb⟩;have HT:=Nc (HT.out.next hb);have HS:=Nc hs;clear hs hb;go_wp2_with fail
   refine hK.out _ _ (HI.out _ HT.out.bel) (fun hHeld=>?_);clear hK K
   try simp only[lay]
   refine tq 5 rfl ?_;refine tq 6 rfl ?_;refine tq 7 rfl ?_;refine fP 10 11 HT.out HS.out HI.out rfl rfl rfl rfl rfl rfl (by rfl) (by rfl) rfl rfl rfl rfl (by kernel_rfl) (by kernel_rfl) (by kernel_rfl) (fun hR=>?_);have HR:=Nc hR;clear hR hHeld;go_wp2_with fail
   go_meet
   exact⟨_,_,_,_,_,_,rfl,rfl,HR⟩;clear hHeld;go_simp;have HT:=Nc (HT.out.a8)
   try simp only[World.size_alloc] at HT
   refine hK.out _ _ (HI.out _ HT.out.bel) (fun hHeld=>?_);clear hK K
   try simp only[lay]
   refine rd1 3 rfl (fun K hK=>?_);clear hHeld;go_simp;go_at_call 29;with_reducible refine(HSt.out _ HT.out.bel).mono ?_
   rintro e w6 ⟨⟨p0,c0,q0,d0,rfl,hs,_,_⟩,hb⟩;have HT:=Nc (HT.out.next hb);have HS:=Nc hs;clear hs hb;go_wp2_with fail
   refine hK.out _ _ (HI.out _ HT.out.bel) (fun hHeld=>?_);clear hK K
   try simp only[lay]
   refine rd1 4 rfl (fun K hK=>?_);clear hHeld;go_simp;go_at_call 14;with_reducible refine(HRu.out _ p0 c0 q0 d0 HT.out.bel HS.out).mono ?_
   rintro e w7 ⟨⟨p1,c1,q1,d1,rfl,hs,_,_⟩,hb⟩;have HT:=Nc (HT.out.next hb);have HS:=Nc hs;clear hs hb;go_wp2_with fail
   refine hK.out _ _ (HI.out _ HT.out.bel) (fun hHeld=>?_);clear hK K
   try simp only[lay]
   refine tq 5 rfl ?_;refine tq 6 rfl ?_;refine tq 7 rfl ?_;refine fP 10 11 HT.out HS.out HI.out rfl rfl rfl rfl rfl rfl (by rfl) (by rfl) rfl rfl rfl rfl (by kernel_rfl) (by kernel_rfl) (by kernel_rfl) (fun hR=>?_);have HR:=Nc hR;clear hR hHeld;go_wp2_with fail
   go_meet
   exact⟨_,_,_,_,_,_,rfl,rfl,HR⟩
 case rest=>
 obtain⟨aC,bC,pC,cC,qC,dC,rfl,rfl,HRC⟩:=hcut;obtain⟨VC,hV⟩:∃ V,V=wc:=⟨_,rfl⟩;subst hV;have HRA:=Nc (HRA.out.next HRC.out.bel);have HRB:=Nc (HRB.out.next HRC.out.bel);have a0:=ae HRA.out.trap 0 _ rfl;have a1:=ae HRA.out.trap 1 _ rfl;have a2:VC.cell? ⟨aA,1,none⟩=some (.int .u16 ((au jO.1).r 1)):=ae HRA.out.snap 1 _ rfl;have a3:VC.cell? ⟨aA,8,none⟩=some (.int .u16 (au jO.1).pc):=ae HRA.out.snap 8 _ rfl;have a4:VC.cell? ⟨aA,13,none⟩=some (.int .i64 (au jO.1).steps):=ae HRA.out.snap 13 _ rfl;have e1:jO.2.1=1:=congrArg Prod.fst DU.1;have e2:jO.2.2=0:=congrArg Prod.snd DU.1;rw[e1] at a0;rw[e2] at a1;rw[show(au jO.1).r 1=5 from DU.2.1] at a2;rw[show(au jO.1).pc=5 from DU.2.2.1] at a3;rw[show(au jO.1).steps=2 from DU.2.2.2] at a4;have b0:=ae HRB.out.trap 0 _ rfl;have b1:=ae HRB.out.trap 1 _ rfl;have b2:VC.cell? ⟨aB,18,none⟩=some (.slice qB (au kE.1).out.length dB):=ae HRB.out.snap 18 _ rfl;have e3:kE.2.1=6:=congrArg Prod.fst Gp.1;have e4:kE.2.2=0:=congrArg Prod.snd Gp.1;rw[e3] at b0;rw[e4] at b1;have eo:(au kE.1).out=[(7,0)]:=Gp.2.2;rw[eo] at b2;have HSl:=Nc (eo▸HRB.out.lists.out);have heq1:=uC 1 0 1 0;have heq2:=uC 6 0 6 0;have heq3:=uC 5 0 5 0;simp only[and_self,decide_true] at heq1 heq2 heq3;clear e1 e2 e3 e4 eo;go_wp2_with fail
 have HB8:=Nc ((Below.refl _ VC).alloc (Nat.le_refl _) (.cells #[.int .u16 7,.int .u16 0] 81));refine(qO [(7,0)] [(7,0)] qB (some ⟨VC.heap.size,0,none⟩) dB 1 _ (HSl.out.below HB8.out) (fun j x hx=>⟨VC.heap.size,rfl,ae (heap_alloc_new VC _) j x (by rw[← hx];simp[evC])⟩) (by decide) (by decide)).mono ?_;rintro e w8 ⟨rfl,hb8⟩;have HC8:=HRC.out.next (HB8.out.trans (hb8.mono HB8.out.size));have HBB8:=HRB.out.next (HB8.out.trans (hb8.mono HB8.out.size));have c0:=ae HC8.trap 0 _ rfl;have c1:=ae HC8.trap 1 _ rfl;have c2:w8.cell? ⟨aC,13,none⟩=some (.int .i64 (au lJ.1).steps):=ae HC8.snap 13 _ rfl;have c3:w8.cell? ⟨aC,3,none⟩=some (.int .u16 ((au lJ.1).r 3)):=ae HC8.snap 3 _ rfl;have b3:w8.cell? ⟨aB,17,none⟩=some (.slice pB (au kE.1).stk.length cB):=ae HBB8.snap 17 _ rfl;have e1:lJ.2.1=5:=congrArg Prod.fst Gn.1;have e2:lJ.2.2=0:=congrArg Prod.snd Gn.1;rw[e1] at c0;rw[e2] at c1;rw[show(au lJ.1).steps=2 from Gn.2.1] at c2;rw[show(au lJ.1).r 3=0 from Gn.2.2] at c3;rw[show(au kE.1).stk.length=0 by show((List.range kE.1.sp).map kE.1.stk).length=0;rw[List.length_map,List.length_range];exact Gp.2.1] at b3;have HE:=Nc ((HBC.out.trans (HRC.out.bel.mono HBC.out.size)).trans ((HB8.out.trans (hb8.mono HB8.out.size)).mono (Nat.le_trans HBC.out.size HRC.out.bel.size)));clear a0 a1 a2 a3 a4 b0 b1 b2 hb8 e1 e2 HC8 HBB8;go_wp2_with fail
 go_ret
 exact⟨rfl,HE.out⟩
end Go.Proofs.YthkcloapiefggaaGreatDoor
