import Derived.Test.YthkcloapiefggaaGreatDoorQOut
namespace Go.Proofs.YthkcloapiefggaaGreatDoor
set_option linter.unusedVariables false
set_option linter.unusedSimpArgs false
set_option maxRecDepth 100000
set_option maxHeartbeats 1000000
open Go.ChangeShapes Go.WideShapes Go.RowKit
theorem lL(S:Ms){i:Ins}(h:InD i):U16 (atP S i):=by
 unfold atP
 split
 ·exact⟨h.ok.m0,h.ok.m1⟩
 ·exact dU _
theorem pz{ok:Int→Bool}{val:Int→Int}(h:∀ x,ok x=true→0≤val x∧val x < 256){a v:Int}(hv:wdP ok val a= .ok v):U16 v:=by
 unfold wdP at hv
 split at hv
 ·rename_i h1
  split at hv
  ·rename_i h2
   have a1:=h _ h1;have a2:=h _ h2;injection hv with hv;subst hv;exact⟨by omega,by omega⟩
  ·cases hv
 ·cases hv
theorem JF{S S':Ms}{a v:Int}(h:stW S a v= .ok S'):S'.r=S.r:=by
 unfold stW at h
 split at h
 ·split at h
  ·injection h with h;subst h;rfl
  ·cases h
 ·cases h
theorem yj(op:Int)(ho:op=80∨op=84∨op=88)(E:Env)(ov:Value)(S:Ms)(k:Nat)(s im ax bk sz:Int)(w:World)(h:Mc E ov S w)(hd:k < 8)(hi:InD ⟨op,k,s,im,ax,bk,sz⟩):
  Calls Tryz.prog 109 #[.pointer (some ⟨E.b,0,none⟩),.agg #[.int .i64 op,.int .i64 (k:Int),.int .i64 s,.int .u16 im,.int .u16 ax,.int .i64 bk,.int .i64 sz]] w fun e w'=>Post E ov S w ((wdP bQ (eY S) (atP S ⟨op,k,s,im,ax,bk,sz⟩)).to (aZ S k)) e w':=by
 have hlt:=h.lt;have hne0:E.b≠w.heap.size:=by omega
 have hne1:E.b≠w.heap.size+1:=by omega
 have hk8:(k:Int) < 8:=by omega
 have H0:=h.alloc (.cells #[.pointer (some ⟨E.b,0,none⟩)] 87);have HI0:=aG (w.alloc (.cells #[.pointer (some ⟨E.b,0,none⟩)] 87)) op k s im ax bk sz;rw[show(w.alloc (.cells #[.pointer (some ⟨E.b,0,none⟩)] 87)).heap.size=w.heap.size+1 by simp] at HI0;have hm0:=ae (aj _ (.cells #[.int .i64 op,.int .i64 (k:Int),.int .i64 s,.int .u16 im,.int .u16 ax,.int .i64 bk,.int .i64 sz] 58) _ (heap_alloc_new w (.cells #[.pointer (some ⟨E.b,0,none⟩)] 87))) 0 (.pointer (some ⟨E.b,0,none⟩)) rfl;have H1:=H0.alloc (.cells #[.int .i64 op,.int .i64 (k:Int),.int .i64 s,.int .u16 im,.int .u16 ax,.int .i64 bk,.int .i64 sz] 58);have G1:=aJ (aJ (ah w (some E.b)) (.cells #[.pointer (some ⟨E.b,0,none⟩)] 87)) (.cells #[.int .i64 op,.int .i64 (k:Int),.int .i64 s,.int .u16 im,.int .u16 ax,.int .i64 bk,.int .i64 sz] 58);obtain⟨W,hW⟩:∃ W,((w.alloc (.cells #[.pointer (some ⟨E.b,0,none⟩)] 87)).alloc (.cells #[.int .i64 op,.int .i64 (k:Int),.int .i64 s,.int .u16 im,.int .u16 ax,.int .i64 bk,.int .i64 sz] 58))=W:=⟨_,rfl⟩;have hsz:w.heap.size+1 < W.heap.size:=by rw[← hW];simp
 rw[hW] at HI0 hm0 H1 G1;have HI:=Nc HI0;have HM0:=Nc hm0;have H:=Nc H1;have HG:=Nc G1;have HA:=Nc (fJ E ov S ⟨op,k,s,im,ax,bk,sz⟩ W H1 hi);have HU:=Nc (lL S hi);have HOK:=Nc h.ok;have HB:=Nc (And.intro hi.b0 hi.b1);have HX:=Nc (show U16 ax from⟨hi.ok.a0,hi.ok.a1⟩);obtain⟨a,ha⟩:∃ a,atP S ⟨op,k,s,im,ax,bk,sz⟩=a:=⟨_,rfl⟩;rw[ha] at HA HU⊢;obtain⟨n0,n1,n2,n3,n4,n5,n6⟩:=HI0;have hmf:∀ (fn:Fn) (first cap:Array Value) (w:World),(Instr.makeFunc fn first cap).run Tryz.prog w= .ok (.func fn first cap) w:=fun _ _ _ _=>rfl
 clear ha h H0 H1 G1 hi;obtain⟨V,hV⟩:∃ V,wdP bQ (eY S) a=V:=⟨_,rfl⟩;have HVB0:=Nc (fun (v:Int) (hv:V= .ok v)=>pz (fun x hx=>jH HOK.out hx) (hV.trans hv));have HC:=Nc (fun W' (hw:Mc E ov S W')=>uT E ov S a W' hw HU.out);rw[hV] at HC⊢;clear hV;cases V with
 | ok v=>
  have HVB:=Nc (HVB0.out v rfl);rcases ho with rfl|rfl|rfl;all_goals
   go_enter Tryz.func109,Tryz.ntmps109
   go_wp2_with fail
   refine HA.out.mono ?_;rintro e w1 ⟨rfl,hb1⟩;have M1:=Nc (H.out.kept hb1);have GG:=Nc (ak HG.out hb1);have I1:=Nc (Bxi.kept HI.out (ak (ah W (some E.b)) hb1) hne1);have P1:=Nc (cell_kept HM0.out (ak (ah W (some E.b)) hb1) hne0);have p0:=P1.out;have P1d:=Nc (show w1.drew.cell? ⟨w.heap.size,0,none⟩=some (.pointer (some ⟨E.b,0,none⟩)) from P1.out);have I5d:=Nc (show w1.drew.cell? ⟨w.heap.size+1,5,none⟩=some (.int .i64 bk) from I1.out.2.2.2.2.2.1);obtain⟨d0,d1,d2,d3,d4,d5,d6⟩:=I1.out;clear hb1 n0 n1 n2 n3 n4 n5 n6 hm0;go_wp2_with fail
   have hS1:=Nc (And.intro p0 d1);refine wp_region_held_drew (S:=fun w'=>w'.cell? ⟨w.heap.size,0,none⟩=some (.pointer (some ⟨E.b,0,none⟩))∧w'.cell? ⟨w.heap.size+1,1,none⟩=some (.int .i64 (k:Int))) (by kernel_rfl) (hS1.out) (fun hHeld=>?_);refine tq 0 rfl ?_;refine tq 1 rfl ?_;refine tq 2 rfl ?_;refine tq 3 rfl ?_;refine tq 4 rfl ?_;refine tq 5 rfl ?_;refine tq 7 rfl ?_;refine tq 8 rfl ?_;refine tq 9 rfl ?_;refine rd1 6 rfl (fun K hK=>?_);go_simp
   ((go_at_call 138;(with_reducible refine(HC.out _ M1.out.drew).mono ?_));rintro e w2 ⟨he,hb2⟩;have he':e= .returned (.int .u16 v):=he;subst he';have M2:=Nc ((M1.out.drew.kept hb2).aZ k hd v HVB.out);have G2:=Nc (ag (ak (aO GG.out) hb2) (7+k) (.int .u16 v));have K1:=Nc (And.intro (cell_kept (w:=w1.drew) P1.out (ak (ah _ (some E.b)) hb2) hne0) (cell_kept (w:=w1.drew) I1.out.2.1 (ak (ah _ (some E.b)) hb2) hne1));have K2:=Nc (And.intro (bV (i:=7+k) (v:= .int .u16 v) K1.out.1 hne0) (bV (i:=7+k) (v:= .int .u16 v) K1.out.2 hne1));have ck1:=(M1.out.drew.kept hb2).cR k hd;have cf1:=(M1.out.drew.kept hb2).frz;clear hb2 he)
   go_wp2_with fail
   refine hK.out _ _ (K1.out) (fun hHeld=>?_);clear hK K
   try simp only[lay]
   refine tq 10 rfl ?_;refine rd1 11 rfl (fun K hK=>?_);go_simp;refine hK.out _ _ (K2.out) (fun hHeld=>?_);clear hK K
   try simp only[lay]
   refine wpAnyH_done (by kernel_rfl) ?_ _;go_wp2_with fail
   go_end0
   exact Post.okk rfl rfl M2.out G2.out
 | tr t i=>
  rcases ho with rfl|rfl|rfl;all_goals
   go_enter Tryz.func109,Tryz.ntmps109
   go_wp2_with fail
   refine HA.out.mono ?_;rintro e w1 ⟨rfl,hb1⟩;have M1:=Nc (H.out.kept hb1);have GG:=Nc (ak HG.out hb1);have I1:=Nc (Bxi.kept HI.out (ak (ah W (some E.b)) hb1) hne1);have P1:=Nc (cell_kept HM0.out (ak (ah W (some E.b)) hb1) hne0);have p0:=P1.out;have P1d:=Nc (show w1.drew.cell? ⟨w.heap.size,0,none⟩=some (.pointer (some ⟨E.b,0,none⟩)) from P1.out);have I5d:=Nc (show w1.drew.cell? ⟨w.heap.size+1,5,none⟩=some (.int .i64 bk) from I1.out.2.2.2.2.2.1);obtain⟨d0,d1,d2,d3,d4,d5,d6⟩:=I1.out;clear hb1 n0 n1 n2 n3 n4 n5 n6 hm0;go_wp2_with fail
   have hS1:=Nc (And.intro p0 d1);refine wp_region_held_drew (S:=fun w'=>w'.cell? ⟨w.heap.size,0,none⟩=some (.pointer (some ⟨E.b,0,none⟩))∧w'.cell? ⟨w.heap.size+1,1,none⟩=some (.int .i64 (k:Int))) (by kernel_rfl) (hS1.out) (fun hHeld=>?_);refine tq 0 rfl ?_;refine tq 1 rfl ?_;refine tq 2 rfl ?_;refine tq 3 rfl ?_;refine tq 4 rfl ?_;refine tq 5 rfl ?_;refine tq 7 rfl ?_;refine tq 8 rfl ?_;refine tq 9 rfl ?_;refine rd1 6 rfl (fun K hK=>?_);go_simp
   ((go_at_call 138;(with_reducible refine(HC.out _ M1.out.drew).mono ?_));rintro e w2 ⟨he,hb2⟩;have he':e= .panicked (dQ t i):=he;subst he';have M2:=Nc (M1.out.drew.kept hb2);have G2:=Nc (ak (aO GG.out) hb2);clear hb2 he)
   go_wp2_with fail
   exact⟨rfl,Post.trr rfl rfl M2.out (Kp.refl S) G2.out⟩
theorem yl(op:Int)(ho:op=81∨op=85∨op=89)(E:Env)(ov:Value)(S:Ms)(k:Nat)(s im ax bk sz:Int)(w:World)(h:Mc E ov S w)(hd:k < 8)(hi:InD ⟨op,k,s,im,ax,bk,sz⟩):
  Calls Tryz.prog 109 #[.pointer (some ⟨E.b,0,none⟩),.agg #[.int .i64 op,.int .i64 (k:Int),.int .i64 s,.int .u16 im,.int .u16 ax,.int .i64 bk,.int .i64 sz]] w fun e w'=>Post E ov S w ((byP (bQ) (eY S) (atP S ⟨op,k,s,im,ax,bk,sz⟩)).to (aZ S k)) e w':=by
 have hlt:=h.lt;have hne0:E.b≠w.heap.size:=by omega
 have hne1:E.b≠w.heap.size+1:=by omega
 have hk8:(k:Int) < 8:=by omega
 have H0:=h.alloc (.cells #[.pointer (some ⟨E.b,0,none⟩)] 87);have HI0:=aG (w.alloc (.cells #[.pointer (some ⟨E.b,0,none⟩)] 87)) op k s im ax bk sz;rw[show(w.alloc (.cells #[.pointer (some ⟨E.b,0,none⟩)] 87)).heap.size=w.heap.size+1 by simp] at HI0;have hm0:=ae (aj _ (.cells #[.int .i64 op,.int .i64 (k:Int),.int .i64 s,.int .u16 im,.int .u16 ax,.int .i64 bk,.int .i64 sz] 58) _ (heap_alloc_new w (.cells #[.pointer (some ⟨E.b,0,none⟩)] 87))) 0 (.pointer (some ⟨E.b,0,none⟩)) rfl;have H1:=H0.alloc (.cells #[.int .i64 op,.int .i64 (k:Int),.int .i64 s,.int .u16 im,.int .u16 ax,.int .i64 bk,.int .i64 sz] 58);have G1:=aJ (aJ (ah w (some E.b)) (.cells #[.pointer (some ⟨E.b,0,none⟩)] 87)) (.cells #[.int .i64 op,.int .i64 (k:Int),.int .i64 s,.int .u16 im,.int .u16 ax,.int .i64 bk,.int .i64 sz] 58);obtain⟨W,hW⟩:∃ W,((w.alloc (.cells #[.pointer (some ⟨E.b,0,none⟩)] 87)).alloc (.cells #[.int .i64 op,.int .i64 (k:Int),.int .i64 s,.int .u16 im,.int .u16 ax,.int .i64 bk,.int .i64 sz] 58))=W:=⟨_,rfl⟩;have hsz:w.heap.size+1 < W.heap.size:=by rw[← hW];simp
 rw[hW] at HI0 hm0 H1 G1;have HI:=Nc HI0;have HM0:=Nc hm0;have H:=Nc H1;have HG:=Nc G1;have HA:=Nc (fJ E ov S ⟨op,k,s,im,ax,bk,sz⟩ W H1 hi);have HU:=Nc (lL S hi);have HOK:=Nc h.ok;have HB:=Nc (And.intro hi.b0 hi.b1);have HX:=Nc (show U16 ax from⟨hi.ok.a0,hi.ok.a1⟩);obtain⟨a,ha⟩:∃ a,atP S ⟨op,k,s,im,ax,bk,sz⟩=a:=⟨_,rfl⟩;rw[ha] at HA HU⊢;obtain⟨n0,n1,n2,n3,n4,n5,n6⟩:=HI0;have hmf:∀ (fn:Fn) (first cap:Array Value) (w:World),(Instr.makeFunc fn first cap).run Tryz.prog w= .ok (.func fn first cap) w:=fun _ _ _ _=>rfl
 clear ha h H0 H1 G1 hi;have HC:=Nc (fun W' (hw:Mc E ov S W')=>qi E ov S a W' hw);have HE:=Nc (show byP (bQ) (eY S) a=if bQ a=true then .ok (eY S a) else .tr 2 a from rfl);have HVB0:=Nc (fun (hr:bQ a=true)=>jH HOK.out hr);obtain⟨r,hr⟩:∃ r,bQ a=r:=⟨_,rfl⟩;obtain⟨v,hv⟩:∃ v,eY S a=v:=⟨_,rfl⟩;rw[hr,hv] at HC HE HVB0;obtain⟨V,hV⟩:∃ V,byP (bQ) (eY S) a=V:=⟨_,rfl⟩;rw[hV] at HE⊢;clear hr hv hV;cases r with
 | true=>
  have HE1:=HE.out.trans (if_pos rfl);subst HE1;have hvb:=HVB0.out rfl;have HVB:=Nc (show U16 v from⟨hvb.1,by omega⟩);have hv0:=hvb.1;have hv1:=hvb.2;have hwv:IntKind.u16.wrap v=v:=by rw[IntKind.wrap_u16];omega
  clear hvb;rcases ho with rfl|rfl|rfl;all_goals
   go_enter Tryz.func109,Tryz.ntmps109
   go_wp2_with fail
   refine HA.out.mono ?_;rintro e w1 ⟨rfl,hb1⟩;have M1:=Nc (H.out.kept hb1);have GG:=Nc (ak HG.out hb1);have I1:=Nc (Bxi.kept HI.out (ak (ah W (some E.b)) hb1) hne1);have P1:=Nc (cell_kept HM0.out (ak (ah W (some E.b)) hb1) hne0);have p0:=P1.out;have P1d:=Nc (show w1.drew.cell? ⟨w.heap.size,0,none⟩=some (.pointer (some ⟨E.b,0,none⟩)) from P1.out);have I5d:=Nc (show w1.drew.cell? ⟨w.heap.size+1,5,none⟩=some (.int .i64 bk) from I1.out.2.2.2.2.2.1);obtain⟨d0,d1,d2,d3,d4,d5,d6⟩:=I1.out;clear hb1 n0 n1 n2 n3 n4 n5 n6 hm0;go_wp2_with fail
   have hS1:=Nc (And.intro p0 d1);refine wp_region_held_drew (S:=fun w'=>w'.cell? ⟨w.heap.size,0,none⟩=some (.pointer (some ⟨E.b,0,none⟩))∧w'.cell? ⟨w.heap.size+1,1,none⟩=some (.int .i64 (k:Int))) (by kernel_rfl) (hS1.out) (fun hHeld=>?_);refine tq 0 rfl ?_;refine tq 1 rfl ?_;refine tq 2 rfl ?_;refine tq 3 rfl ?_;refine tq 4 rfl ?_;refine tq 7 rfl ?_;refine tq 8 rfl ?_;refine tq 9 rfl ?_;refine rd1 5 rfl (fun K hK=>?_);go_simp
   ((go_at_call 139;(with_reducible refine(HC.out _ M1.out.drew).mono ?_));rintro e w2 ⟨he,hb2⟩;obtain rfl:=PV.yes rfl he;have M2:=Nc ((M1.out.drew.kept hb2).aZ k hd v HVB.out);have G2:=Nc (ag (ak (aO GG.out) hb2) (7+k) (.int .u16 v));have K1:=Nc (And.intro (cell_kept (w:=w1.drew) P1.out (ak (ah _ (some E.b)) hb2) hne0) (cell_kept (w:=w1.drew) I1.out.2.1 (ak (ah _ (some E.b)) hb2) hne1));have K2:=Nc (And.intro (bV (i:=7+k) (v:= .int .u16 v) K1.out.1 hne0) (bV (i:=7+k) (v:= .int .u16 v) K1.out.2 hne1));have ck1:=(M1.out.drew.kept hb2).cR k hd;have cf1:=(M1.out.drew.kept hb2).frz;clear hb2 he)
   go_wp2_with fail
   refine hK.out _ _ (K1.out) (fun hHeld=>?_);clear hK K
   try simp only[lay]
   refine tq 6 rfl ?_;refine tq 10 rfl ?_;refine rd1 11 rfl (fun K hK=>?_);go_simp;refine hK.out _ _ (K2.out) (fun hHeld=>?_);clear hK K
   try simp only[lay]
   refine wpAnyH_done (by kernel_rfl) ?_ _;go_wp2_with fail
   go_end0
   exact Post.okk rfl rfl M2.out G2.out
 | false=>
  have HE1:=HE.out.trans (if_neg (by decide));subst HE1;rcases ho with rfl|rfl|rfl;all_goals
   go_enter Tryz.func109,Tryz.ntmps109
   go_wp2_with fail
   refine HA.out.mono ?_;rintro e w1 ⟨rfl,hb1⟩;have M1:=Nc (H.out.kept hb1);have GG:=Nc (ak HG.out hb1);have I1:=Nc (Bxi.kept HI.out (ak (ah W (some E.b)) hb1) hne1);have P1:=Nc (cell_kept HM0.out (ak (ah W (some E.b)) hb1) hne0);have p0:=P1.out;have P1d:=Nc (show w1.drew.cell? ⟨w.heap.size,0,none⟩=some (.pointer (some ⟨E.b,0,none⟩)) from P1.out);have I5d:=Nc (show w1.drew.cell? ⟨w.heap.size+1,5,none⟩=some (.int .i64 bk) from I1.out.2.2.2.2.2.1);obtain⟨d0,d1,d2,d3,d4,d5,d6⟩:=I1.out;clear hb1 n0 n1 n2 n3 n4 n5 n6 hm0;go_wp2_with fail
   have hS1:=Nc (And.intro p0 d1);refine wp_region_held_drew (S:=fun w'=>w'.cell? ⟨w.heap.size,0,none⟩=some (.pointer (some ⟨E.b,0,none⟩))∧w'.cell? ⟨w.heap.size+1,1,none⟩=some (.int .i64 (k:Int))) (by kernel_rfl) (hS1.out) (fun hHeld=>?_);refine tq 0 rfl ?_;refine tq 1 rfl ?_;refine tq 2 rfl ?_;refine tq 3 rfl ?_;refine tq 4 rfl ?_;refine tq 7 rfl ?_;refine tq 8 rfl ?_;refine tq 9 rfl ?_;refine rd1 5 rfl (fun K hK=>?_);go_simp
   ((go_at_call 139;(with_reducible refine(HC.out _ M1.out.drew).mono ?_));rintro e w2 ⟨he,hb2⟩;obtain rfl:=PV.no rfl he;have M2:=Nc (M1.out.drew.kept hb2);have G2:=Nc (ak (aO GG.out) hb2);clear hb2 he)
   go_wp2_with fail
   exact⟨rfl,Post.trr rfl rfl M2.out (Kp.refl S) G2.out⟩
theorem GX(E:Env)(ov:Value)(S:Ms)(k:Nat)(s im ax bk sz:Int)(w:World)(h:Mc E ov S w)(hd:k < 8)(hi:InD ⟨146,k,s,im,ax,bk,sz⟩):
  Calls Tryz.prog 109 #[.pointer (some ⟨E.b,0,none⟩),.agg #[.int .i64 146,.int .i64 (k:Int),.int .i64 s,.int .u16 im,.int .u16 ax,.int .i64 bk,.int .i64 sz]] w fun e w'=>Post E ov S w ((wdP (eu E.I bk) (fO E.I bk) (atP S ⟨146,k,s,im,ax,bk,sz⟩)).to (aZ S k)) e w':=by
 have hlt:=h.lt;have hne0:E.b≠w.heap.size:=by omega
 have hne1:E.b≠w.heap.size+1:=by omega
 have hk8:(k:Int) < 8:=by omega
 have H0:=h.alloc (.cells #[.pointer (some ⟨E.b,0,none⟩)] 87);have HI0:=aG (w.alloc (.cells #[.pointer (some ⟨E.b,0,none⟩)] 87)) 146 k s im ax bk sz;rw[show(w.alloc (.cells #[.pointer (some ⟨E.b,0,none⟩)] 87)).heap.size=w.heap.size+1 by simp] at HI0;have hm0:=ae (aj _ (.cells #[.int .i64 146,.int .i64 (k:Int),.int .i64 s,.int .u16 im,.int .u16 ax,.int .i64 bk,.int .i64 sz] 58) _ (heap_alloc_new w (.cells #[.pointer (some ⟨E.b,0,none⟩)] 87))) 0 (.pointer (some ⟨E.b,0,none⟩)) rfl;have H1:=H0.alloc (.cells #[.int .i64 146,.int .i64 (k:Int),.int .i64 s,.int .u16 im,.int .u16 ax,.int .i64 bk,.int .i64 sz] 58);have G1:=aJ (aJ (ah w (some E.b)) (.cells #[.pointer (some ⟨E.b,0,none⟩)] 87)) (.cells #[.int .i64 146,.int .i64 (k:Int),.int .i64 s,.int .u16 im,.int .u16 ax,.int .i64 bk,.int .i64 sz] 58);obtain⟨W,hW⟩:∃ W,((w.alloc (.cells #[.pointer (some ⟨E.b,0,none⟩)] 87)).alloc (.cells #[.int .i64 146,.int .i64 (k:Int),.int .i64 s,.int .u16 im,.int .u16 ax,.int .i64 bk,.int .i64 sz] 58))=W:=⟨_,rfl⟩;have hsz:w.heap.size+1 < W.heap.size:=by rw[← hW];simp
 rw[hW] at HI0 hm0 H1 G1;have HI:=Nc HI0;have HM0:=Nc hm0;have H:=Nc H1;have HG:=Nc G1;have HA:=Nc (fJ E ov S ⟨146,k,s,im,ax,bk,sz⟩ W H1 hi);have HU:=Nc (lL S hi);have HOK:=Nc h.ok;have HB:=Nc (And.intro hi.b0 hi.b1);have HX:=Nc (show U16 ax from⟨hi.ok.a0,hi.ok.a1⟩);obtain⟨a,ha⟩:∃ a,atP S ⟨146,k,s,im,ax,bk,sz⟩=a:=⟨_,rfl⟩;rw[ha] at HA HU⊢;obtain⟨n0,n1,n2,n3,n4,n5,n6⟩:=HI0;have hmf:∀ (fn:Fn) (first cap:Array Value) (w:World),(Instr.makeFunc fn first cap).run Tryz.prog w= .ok (.func fn first cap) w:=fun _ _ _ _=>rfl
 clear ha h H0 H1 G1 hi;obtain⟨V,hV⟩:∃ V,wdP (eu E.I bk) (fO E.I bk) a=V:=⟨_,rfl⟩;have HVB0:=Nc (fun (v:Int) (hv:V= .ok v)=>pz (fun x hx=>oP E.I bk x) (hV.trans hv));have HC:=Nc (fun W' (hw:Mc E ov S W') (hp:W'.cell? ⟨w.heap.size,0,none⟩=some (.pointer (some ⟨E.b,0,none⟩))) (hq:W'.cell? ⟨w.heap.size+1,5,none⟩=some (.int .i64 bk))=>uS E ov S a bk w.heap.size (w.heap.size+1) W' hw HU.out HB.out.1 HB.out.2 hp hq);rw[hV] at HC⊢;clear hV;cases V with
 | ok v=>
  have HVB:=Nc (HVB0.out v rfl);go_enter Tryz.func109,Tryz.ntmps109
  go_wp2_with fail
  refine HA.out.mono ?_;rintro e w1 ⟨rfl,hb1⟩;have M1:=Nc (H.out.kept hb1);have GG:=Nc (ak HG.out hb1);have I1:=Nc (Bxi.kept HI.out (ak (ah W (some E.b)) hb1) hne1);have P1:=Nc (cell_kept HM0.out (ak (ah W (some E.b)) hb1) hne0);have p0:=P1.out;have P1d:=Nc (show w1.drew.cell? ⟨w.heap.size,0,none⟩=some (.pointer (some ⟨E.b,0,none⟩)) from P1.out);have I5d:=Nc (show w1.drew.cell? ⟨w.heap.size+1,5,none⟩=some (.int .i64 bk) from I1.out.2.2.2.2.2.1);obtain⟨d0,d1,d2,d3,d4,d5,d6⟩:=I1.out;clear hb1 n0 n1 n2 n3 n4 n5 n6 hm0;go_wp2_with fail
  have hS1:=Nc (And.intro p0 d1);refine wp_region_held_drew (S:=fun w'=>w'.cell? ⟨w.heap.size,0,none⟩=some (.pointer (some ⟨E.b,0,none⟩))∧w'.cell? ⟨w.heap.size+1,1,none⟩=some (.int .i64 (k:Int))) (by kernel_rfl) (hS1.out) (fun hHeld=>?_);refine tq 0 rfl ?_;refine tq 1 rfl ?_;refine tq 2 rfl ?_;refine tq 3 rfl ?_;refine tq 4 rfl ?_;refine tq 6 rfl ?_;refine tq 7 rfl ?_;refine tq 8 rfl ?_;refine rd1 5 rfl (fun K hK=>?_);go_simp
  ((go_at_call 138;(with_reducible refine(HC.out _ M1.out.drew P1d.out I5d.out).mono ?_));rintro e w2 ⟨he,hb2⟩;have he':e= .returned (.int .u16 v):=he;subst he';have M2:=Nc ((M1.out.drew.kept hb2).aZ k hd v HVB.out);have G2:=Nc (ag (ak (aO GG.out) hb2) (7+k) (.int .u16 v));have K1:=Nc (And.intro (cell_kept (w:=w1.drew) P1.out (ak (ah _ (some E.b)) hb2) hne0) (cell_kept (w:=w1.drew) I1.out.2.1 (ak (ah _ (some E.b)) hb2) hne1));have K2:=Nc (And.intro (bV (i:=7+k) (v:= .int .u16 v) K1.out.1 hne0) (bV (i:=7+k) (v:= .int .u16 v) K1.out.2 hne1));have ck1:=(M1.out.drew.kept hb2).cR k hd;have cf1:=(M1.out.drew.kept hb2).frz;clear hb2 he)
  go_wp2_with fail
  refine hK.out _ _ (K1.out) (fun hHeld=>?_);clear hK K
  try simp only[lay]
  refine tq 9 rfl ?_;refine rd1 10 rfl (fun K hK=>?_);go_simp;refine hK.out _ _ (K2.out) (fun hHeld=>?_);clear hK K
  try simp only[lay]
  refine wpAnyH_done (by kernel_rfl) ?_ _;go_wp2_with fail
  go_end0
  exact Post.okk rfl rfl M2.out G2.out
 | tr t i=>
  go_enter Tryz.func109,Tryz.ntmps109
  go_wp2_with fail
  refine HA.out.mono ?_;rintro e w1 ⟨rfl,hb1⟩;have M1:=Nc (H.out.kept hb1);have GG:=Nc (ak HG.out hb1);have I1:=Nc (Bxi.kept HI.out (ak (ah W (some E.b)) hb1) hne1);have P1:=Nc (cell_kept HM0.out (ak (ah W (some E.b)) hb1) hne0);have p0:=P1.out;have P1d:=Nc (show w1.drew.cell? ⟨w.heap.size,0,none⟩=some (.pointer (some ⟨E.b,0,none⟩)) from P1.out);have I5d:=Nc (show w1.drew.cell? ⟨w.heap.size+1,5,none⟩=some (.int .i64 bk) from I1.out.2.2.2.2.2.1);obtain⟨d0,d1,d2,d3,d4,d5,d6⟩:=I1.out;clear hb1 n0 n1 n2 n3 n4 n5 n6 hm0;go_wp2_with fail
  have hS1:=Nc (And.intro p0 d1);refine wp_region_held_drew (S:=fun w'=>w'.cell? ⟨w.heap.size,0,none⟩=some (.pointer (some ⟨E.b,0,none⟩))∧w'.cell? ⟨w.heap.size+1,1,none⟩=some (.int .i64 (k:Int))) (by kernel_rfl) (hS1.out) (fun hHeld=>?_);refine tq 0 rfl ?_;refine tq 1 rfl ?_;refine tq 2 rfl ?_;refine tq 3 rfl ?_;refine tq 4 rfl ?_;refine tq 6 rfl ?_;refine tq 7 rfl ?_;refine tq 8 rfl ?_;refine rd1 5 rfl (fun K hK=>?_);go_simp
  ((go_at_call 138;(with_reducible refine(HC.out _ M1.out.drew P1d.out I5d.out).mono ?_));rintro e w2 ⟨he,hb2⟩;have he':e= .panicked (dQ t i):=he;subst he';have M2:=Nc (M1.out.drew.kept hb2);have G2:=Nc (ak (aO GG.out) hb2);clear hb2 he)
  go_wp2_with fail
  exact⟨rfl,Post.trr rfl rfl M2.out (Kp.refl S) G2.out⟩
theorem GV(E:Env)(ov:Value)(S:Ms)(k:Nat)(s im ax bk sz:Int)(w:World)(h:Mc E ov S w)(hd:k < 8)(hi:InD ⟨147,k,s,im,ax,bk,sz⟩):
  Calls Tryz.prog 109 #[.pointer (some ⟨E.b,0,none⟩),.agg #[.int .i64 147,.int .i64 (k:Int),.int .i64 s,.int .u16 im,.int .u16 ax,.int .i64 bk,.int .i64 sz]] w fun e w'=>Post E ov S w ((byP (eu E.I bk) (fO E.I bk) (atP S ⟨147,k,s,im,ax,bk,sz⟩)).to (aZ S k)) e w':=by
 have hlt:=h.lt;have hne0:E.b≠w.heap.size:=by omega
 have hne1:E.b≠w.heap.size+1:=by omega
 have hk8:(k:Int) < 8:=by omega
 have H0:=h.alloc (.cells #[.pointer (some ⟨E.b,0,none⟩)] 87);have HI0:=aG (w.alloc (.cells #[.pointer (some ⟨E.b,0,none⟩)] 87)) 147 k s im ax bk sz;rw[show(w.alloc (.cells #[.pointer (some ⟨E.b,0,none⟩)] 87)).heap.size=w.heap.size+1 by simp] at HI0;have hm0:=ae (aj _ (.cells #[.int .i64 147,.int .i64 (k:Int),.int .i64 s,.int .u16 im,.int .u16 ax,.int .i64 bk,.int .i64 sz] 58) _ (heap_alloc_new w (.cells #[.pointer (some ⟨E.b,0,none⟩)] 87))) 0 (.pointer (some ⟨E.b,0,none⟩)) rfl;have H1:=H0.alloc (.cells #[.int .i64 147,.int .i64 (k:Int),.int .i64 s,.int .u16 im,.int .u16 ax,.int .i64 bk,.int .i64 sz] 58);have G1:=aJ (aJ (ah w (some E.b)) (.cells #[.pointer (some ⟨E.b,0,none⟩)] 87)) (.cells #[.int .i64 147,.int .i64 (k:Int),.int .i64 s,.int .u16 im,.int .u16 ax,.int .i64 bk,.int .i64 sz] 58);obtain⟨W,hW⟩:∃ W,((w.alloc (.cells #[.pointer (some ⟨E.b,0,none⟩)] 87)).alloc (.cells #[.int .i64 147,.int .i64 (k:Int),.int .i64 s,.int .u16 im,.int .u16 ax,.int .i64 bk,.int .i64 sz] 58))=W:=⟨_,rfl⟩;have hsz:w.heap.size+1 < W.heap.size:=by rw[← hW];simp
 rw[hW] at HI0 hm0 H1 G1;have HI:=Nc HI0;have HM0:=Nc hm0;have H:=Nc H1;have HG:=Nc G1;have HA:=Nc (fJ E ov S ⟨147,k,s,im,ax,bk,sz⟩ W H1 hi);have HU:=Nc (lL S hi);have HOK:=Nc h.ok;have HB:=Nc (And.intro hi.b0 hi.b1);have HX:=Nc (show U16 ax from⟨hi.ok.a0,hi.ok.a1⟩);obtain⟨a,ha⟩:∃ a,atP S ⟨147,k,s,im,ax,bk,sz⟩=a:=⟨_,rfl⟩;rw[ha] at HA HU⊢;obtain⟨n0,n1,n2,n3,n4,n5,n6⟩:=HI0;have hmf:∀ (fn:Fn) (first cap:Array Value) (w:World),(Instr.makeFunc fn first cap).run Tryz.prog w= .ok (.func fn first cap) w:=fun _ _ _ _=>rfl
 clear ha h H0 H1 G1 hi;have HC:=Nc (fun W' (hw:Mc E ov S W')=>(mX E ov S bk a W' hw HB.out.1 HB.out.2 HU.out.1 HU.out.2).mono fun e w' h=>(⟨h.1,h.2▸Below.refl _ _⟩:PV (eu E.I bk a) (fO E.I bk a) a e∧Below W'.heap.size W' w'));have HE:=Nc (show byP (eu E.I bk) (fO E.I bk) a=if eu E.I bk a=true then .ok (fO E.I bk a) else .tr 2 a from rfl);have HVB0:=Nc (fun (hr:eu E.I bk a=true)=>oP E.I bk a);obtain⟨r,hr⟩:∃ r,eu E.I bk a=r:=⟨_,rfl⟩;obtain⟨v,hv⟩:∃ v,fO E.I bk a=v:=⟨_,rfl⟩;rw[hr,hv] at HC HE HVB0;obtain⟨V,hV⟩:∃ V,byP (eu E.I bk) (fO E.I bk) a=V:=⟨_,rfl⟩;rw[hV] at HE⊢;clear hr hv hV;cases r with
 | true=>
  have HE1:=HE.out.trans (if_pos rfl);subst HE1;have hvb:=HVB0.out rfl;have HVB:=Nc (show U16 v from⟨hvb.1,by omega⟩);have hv0:=hvb.1;have hv1:=hvb.2;have hwv:IntKind.u16.wrap v=v:=by rw[IntKind.wrap_u16];omega
  clear hvb;go_enter Tryz.func109,Tryz.ntmps109
  go_wp2_with fail
  refine HA.out.mono ?_;rintro e w1 ⟨rfl,hb1⟩;have M1:=Nc (H.out.kept hb1);have GG:=Nc (ak HG.out hb1);have I1:=Nc (Bxi.kept HI.out (ak (ah W (some E.b)) hb1) hne1);have P1:=Nc (cell_kept HM0.out (ak (ah W (some E.b)) hb1) hne0);have p0:=P1.out;have P1d:=Nc (show w1.drew.cell? ⟨w.heap.size,0,none⟩=some (.pointer (some ⟨E.b,0,none⟩)) from P1.out);have I5d:=Nc (show w1.drew.cell? ⟨w.heap.size+1,5,none⟩=some (.int .i64 bk) from I1.out.2.2.2.2.2.1);obtain⟨d0,d1,d2,d3,d4,d5,d6⟩:=I1.out;clear hb1 n0 n1 n2 n3 n4 n5 n6 hm0;go_wp2_with fail
  have hS1:=Nc (And.intro p0 (And.intro d1 d5));refine wp_region_held_drew (S:=fun w'=>w'.cell? ⟨w.heap.size,0,none⟩=some (.pointer (some ⟨E.b,0,none⟩))∧w'.cell? ⟨w.heap.size+1,1,none⟩=some (.int .i64 (k:Int))∧w'.cell? ⟨w.heap.size+1,5,none⟩=some (.int .i64 bk)) (by kernel_rfl) (hS1.out) (fun hHeld=>?_);refine tq 0 rfl ?_;refine tq 1 rfl ?_;refine tq 2 rfl ?_;refine tq 3 rfl ?_;refine tq 4 rfl ?_;refine tq 5 rfl ?_;refine tq 6 rfl ?_;refine tq 9 rfl ?_;refine tq 10 rfl ?_;refine tq 11 rfl ?_;refine rd1 7 rfl (fun K hK=>?_);go_simp
  ((go_at_call 143;(with_reducible refine(HC.out _ M1.out.drew).mono ?_));rintro e w2 ⟨he,hb2⟩;obtain rfl:=PV.yes rfl he;have M2:=Nc ((M1.out.drew.kept hb2).aZ k hd v HVB.out);have G2:=Nc (ag (ak (aO GG.out) hb2) (7+k) (.int .u16 v));have K1:=Nc (And.intro (cell_kept (w:=w1.drew) P1.out (ak (ah _ (some E.b)) hb2) hne0) (And.intro (cell_kept (w:=w1.drew) I1.out.2.1 (ak (ah _ (some E.b)) hb2) hne1) (cell_kept (w:=w1.drew) I1.out.2.2.2.2.2.1 (ak (ah _ (some E.b)) hb2) hne1)));have K2:=Nc (And.intro (bV (i:=7+k) (v:= .int .u16 v) K1.out.1 hne0) (And.intro (bV (i:=7+k) (v:= .int .u16 v) K1.out.2.1 hne1) (bV (i:=7+k) (v:= .int .u16 v) K1.out.2.2 hne1)));have ck1:=(M1.out.drew.kept hb2).cR k hd;have cf1:=(M1.out.drew.kept hb2).frz;clear hb2 he)
  go_wp2_with fail
  refine hK.out _ _ (K1.out) (fun hHeld=>?_);clear hK K
  try simp only[lay]
  refine tq 8 rfl ?_;refine tq 12 rfl ?_;refine rd1 13 rfl (fun K hK=>?_);go_simp;refine hK.out _ _ (K2.out) (fun hHeld=>?_);clear hK K
  try simp only[lay]
  refine wpAnyH_done (by kernel_rfl) ?_ _;go_wp2_with fail
  go_end0
  exact Post.okk rfl rfl M2.out G2.out
 | false=>
  have HE1:=HE.out.trans (if_neg (by decide));subst HE1;go_enter Tryz.func109,Tryz.ntmps109
  go_wp2_with fail
  refine HA.out.mono ?_;rintro e w1 ⟨rfl,hb1⟩;have M1:=Nc (H.out.kept hb1);have GG:=Nc (ak HG.out hb1);have I1:=Nc (Bxi.kept HI.out (ak (ah W (some E.b)) hb1) hne1);have P1:=Nc (cell_kept HM0.out (ak (ah W (some E.b)) hb1) hne0);have p0:=P1.out;have P1d:=Nc (show w1.drew.cell? ⟨w.heap.size,0,none⟩=some (.pointer (some ⟨E.b,0,none⟩)) from P1.out);have I5d:=Nc (show w1.drew.cell? ⟨w.heap.size+1,5,none⟩=some (.int .i64 bk) from I1.out.2.2.2.2.2.1);obtain⟨d0,d1,d2,d3,d4,d5,d6⟩:=I1.out;clear hb1 n0 n1 n2 n3 n4 n5 n6 hm0;go_wp2_with fail
  have hS1:=Nc (And.intro p0 (And.intro d1 d5));refine wp_region_held_drew (S:=fun w'=>w'.cell? ⟨w.heap.size,0,none⟩=some (.pointer (some ⟨E.b,0,none⟩))∧w'.cell? ⟨w.heap.size+1,1,none⟩=some (.int .i64 (k:Int))∧w'.cell? ⟨w.heap.size+1,5,none⟩=some (.int .i64 bk)) (by kernel_rfl) (hS1.out) (fun hHeld=>?_);refine tq 0 rfl ?_;refine tq 1 rfl ?_;refine tq 2 rfl ?_;refine tq 3 rfl ?_;refine tq 4 rfl ?_;refine tq 5 rfl ?_;refine tq 6 rfl ?_;refine tq 9 rfl ?_;refine tq 10 rfl ?_;refine tq 11 rfl ?_;refine rd1 7 rfl (fun K hK=>?_);go_simp
  ((go_at_call 143;(with_reducible refine(HC.out _ M1.out.drew).mono ?_));rintro e w2 ⟨he,hb2⟩;obtain rfl:=PV.no rfl he;have M2:=Nc (M1.out.drew.kept hb2);have G2:=Nc (ak (aO GG.out) hb2);clear hb2 he)
  go_wp2_with fail
  exact⟨rfl,Post.trr rfl rfl M2.out (Kp.refl S) G2.out⟩
theorem JG{S S':Ms}{a v:Int}(h:stB S a v= .ok S'):S'.r=S.r:=by
 unfold stB at h
 split at h
 ·injection h with h;subst h;rfl
 ·cases h
theorem tY(E:Env)(ov:Value)(S:Ms)(a v:Int)(w:World)(h:Mc E ov S w)(v0:0≤v)(v1:v < 256):
  Calls Tryz.prog 141 #[.pointer (some ⟨E.b,0,none⟩),.int .u16 a,.int .u8 v] w fun e w'=>Post E ov S w (stB S a v) e w':=by
 by_cases q:bQ a=true
 ·exact(jE E ov S a v w h q v0 v1).mono fun e w' h2=>Post.okk (if_pos q) h2.1 h2.2.1 h2.2.2
 ·exact(tX E a v w (by simpa using q)).mono fun e w' h2=>Post.trr (if_neg q) h2.1 (h2.2▸h) (Kp.refl S) (h2.2▸ah _ _)
theorem yg(op:Int)(ho:op=82∨op=86∨op=90)(E:Env)(ov:Value)(S:Ms)(k:Nat)(s im ax bk sz:Int)(w:World)(h:Mc E ov S w)(hd:k < 8)(hi:InD ⟨op,k,s,im,ax,bk,sz⟩):
  Calls Tryz.prog 109 #[.pointer (some ⟨E.b,0,none⟩),.agg #[.int .i64 op,.int .i64 (k:Int),.int .i64 s,.int .u16 im,.int .u16 ax,.int .i64 bk,.int .i64 sz]] w fun e w'=>Post E ov S w (stW S (atP S ⟨op,k,s,im,ax,bk,sz⟩) (S.r k)) e w':=by
 have hlt:=h.lt;have hne0:E.b≠w.heap.size:=by omega
 have hne1:E.b≠w.heap.size+1:=by omega
 have hk8:(k:Int) < 8:=by omega
 have H0:=h.alloc (.cells #[.pointer (some ⟨E.b,0,none⟩)] 87);have HI0:=aG (w.alloc (.cells #[.pointer (some ⟨E.b,0,none⟩)] 87)) op k s im ax bk sz;rw[show(w.alloc (.cells #[.pointer (some ⟨E.b,0,none⟩)] 87)).heap.size=w.heap.size+1 by simp] at HI0;have hm0:=ae (aj _ (.cells #[.int .i64 op,.int .i64 (k:Int),.int .i64 s,.int .u16 im,.int .u16 ax,.int .i64 bk,.int .i64 sz] 58) _ (heap_alloc_new w (.cells #[.pointer (some ⟨E.b,0,none⟩)] 87))) 0 (.pointer (some ⟨E.b,0,none⟩)) rfl;have H1:=H0.alloc (.cells #[.int .i64 op,.int .i64 (k:Int),.int .i64 s,.int .u16 im,.int .u16 ax,.int .i64 bk,.int .i64 sz] 58);have G1:=aJ (aJ (ah w (some E.b)) (.cells #[.pointer (some ⟨E.b,0,none⟩)] 87)) (.cells #[.int .i64 op,.int .i64 (k:Int),.int .i64 s,.int .u16 im,.int .u16 ax,.int .i64 bk,.int .i64 sz] 58);obtain⟨W,hW⟩:∃ W,((w.alloc (.cells #[.pointer (some ⟨E.b,0,none⟩)] 87)).alloc (.cells #[.int .i64 op,.int .i64 (k:Int),.int .i64 s,.int .u16 im,.int .u16 ax,.int .i64 bk,.int .i64 sz] 58))=W:=⟨_,rfl⟩;have hsz:w.heap.size+1 < W.heap.size:=by rw[← hW];simp
 rw[hW] at HI0 hm0 H1 G1;have HI:=Nc HI0;have HM0:=Nc hm0;have H:=Nc H1;have HG:=Nc G1;have HA:=Nc (fJ E ov S ⟨op,k,s,im,ax,bk,sz⟩ W H1 hi);have HU:=Nc (lL S hi);have HOK:=Nc h.ok;have HB:=Nc (And.intro hi.b0 hi.b1);have HX:=Nc (show U16 ax from⟨hi.ok.a0,hi.ok.a1⟩);obtain⟨a,ha⟩:∃ a,atP S ⟨op,k,s,im,ax,bk,sz⟩=a:=⟨_,rfl⟩;rw[ha] at HA HU⊢;obtain⟨n0,n1,n2,n3,n4,n5,n6⟩:=HI0;have hmf:∀ (fn:Fn) (first cap:Array Value) (w:World),(Instr.makeFunc fn first cap).run Tryz.prog w= .ok (.func fn first cap) w:=fun _ _ _ _=>rfl
 clear ha h H0 H1 G1 hi;obtain⟨x,hx⟩:∃ x,S.r k=x:=⟨_,rfl⟩;have HXb:=Nc (hx▸HOK.out.r k hd);have hx0:=HXb.out.1;have hx1:=HXb.out.2;have HXe:=Nc hx;have hwx:IntKind.u8.wrap x=x%256:=IntKind.wrap_u8 x;rw[hx];have HC:=Nc (fun W' (hw:Mc E ov S W')=>kV E ov S a x W' hw HU.out HXb.out);obtain⟨r,hr⟩:∃ r,stW S a x=r:=⟨_,rfl⟩;have HRr:=Nc (fun (S':Ms) (hh:r= .ok S')=>(JF (hr.trans hh)));rw[hr] at HC⊢;clear hr hx;cases r with
 | ok S'=>
  have HRr':=Nc (HRr.out S' rfl);rcases ho with rfl|rfl|rfl;all_goals
   go_enter Tryz.func109,Tryz.ntmps109
   go_wp2_with fail
   refine HA.out.mono ?_;rintro e w1 ⟨rfl,hb1⟩;have M1:=Nc (H.out.kept hb1);have GG:=Nc (ak HG.out hb1);have I1:=Nc (Bxi.kept HI.out (ak (ah W (some E.b)) hb1) hne1);have P1:=Nc (cell_kept HM0.out (ak (ah W (some E.b)) hb1) hne0);have p0:=P1.out;have P1d:=Nc (show w1.drew.cell? ⟨w.heap.size,0,none⟩=some (.pointer (some ⟨E.b,0,none⟩)) from P1.out);have I5d:=Nc (show w1.drew.cell? ⟨w.heap.size+1,5,none⟩=some (.int .i64 bk) from I1.out.2.2.2.2.2.1);obtain⟨d0,d1,d2,d3,d4,d5,d6⟩:=I1.out;clear hb1 n0 n1 n2 n3 n4 n5 n6 hm0;go_wp2_with fail
   have hS1:=Nc (show(fun w'=>w'.cell? ⟨w.heap.size,0,none⟩=some (.pointer (some ⟨E.b,0,none⟩))∧w'.cell? ⟨w.heap.size+1,1,none⟩=some (.int .i64 (k:Int))∧w'.cell? ⟨E.b,7+k,none⟩=some (.int .u16 x)) w1.drew from⟨p0,d1,HXe.out▸M1.out.drew.cR k hd⟩);refine wp_region_held_drew (S:=fun w'=>w'.cell? ⟨w.heap.size,0,none⟩=some (.pointer (some ⟨E.b,0,none⟩))∧w'.cell? ⟨w.heap.size+1,1,none⟩=some (.int .i64 (k:Int))∧w'.cell? ⟨E.b,7+k,none⟩=some (.int .u16 x)) (by kernel_rfl) (hS1.out) (fun hHeld=>?_);refine tq 0 rfl ?_;refine tq 1 rfl ?_;refine tq 2 rfl ?_;refine tq 3 rfl ?_;refine tq 4 rfl ?_;refine tq 5 rfl ?_;refine tq 6 rfl ?_;refine tq 7 rfl ?_;refine tq 8 rfl ?_;refine tq 9 rfl ?_;refine rd1 10 rfl (fun K hK=>?_);go_simp
   ((go_at_call 140;(with_reducible refine(HC.out _ M1.out.drew).mono ?_));rintro e w2 ⟨rfl,hm2,hg2⟩;have M2:=Nc hm2;have G2:=Nc (aS (aO GG.out) hg2);have K1:=Nc (And.intro (cell_kept (w:=w1.drew) P1.out hg2 hne0) (And.intro (cell_kept (w:=w1.drew) I1.out.2.1 hg2 hne1) (show w2.cell? ⟨E.b,7+k,none⟩=some (.int .u16 x) from HXe.out▸HRr'.out▸hm2.cR k hd)));clear hm2 hg2)
   go_wp2_with fail
   refine hK.out _ _ (K1.out) (fun hHeld=>?_);clear hK K
   try simp only[lay]
   refine wpAnyH_done (by kernel_rfl) ?_ _;go_wp2_with fail
   go_end0
   exact Post.okk rfl rfl M2.out G2.out
 | tr t i=>
  rcases ho with rfl|rfl|rfl;all_goals
   go_enter Tryz.func109,Tryz.ntmps109
   go_wp2_with fail
   refine HA.out.mono ?_;rintro e w1 ⟨rfl,hb1⟩;have M1:=Nc (H.out.kept hb1);have GG:=Nc (ak HG.out hb1);have I1:=Nc (Bxi.kept HI.out (ak (ah W (some E.b)) hb1) hne1);have P1:=Nc (cell_kept HM0.out (ak (ah W (some E.b)) hb1) hne0);have p0:=P1.out;have P1d:=Nc (show w1.drew.cell? ⟨w.heap.size,0,none⟩=some (.pointer (some ⟨E.b,0,none⟩)) from P1.out);have I5d:=Nc (show w1.drew.cell? ⟨w.heap.size+1,5,none⟩=some (.int .i64 bk) from I1.out.2.2.2.2.2.1);obtain⟨d0,d1,d2,d3,d4,d5,d6⟩:=I1.out;clear hb1 n0 n1 n2 n3 n4 n5 n6 hm0;go_wp2_with fail
   have hS1:=Nc (show(fun w'=>w'.cell? ⟨w.heap.size,0,none⟩=some (.pointer (some ⟨E.b,0,none⟩))∧w'.cell? ⟨w.heap.size+1,1,none⟩=some (.int .i64 (k:Int))∧w'.cell? ⟨E.b,7+k,none⟩=some (.int .u16 x)) w1.drew from⟨p0,d1,HXe.out▸M1.out.drew.cR k hd⟩);refine wp_region_held_drew (S:=fun w'=>w'.cell? ⟨w.heap.size,0,none⟩=some (.pointer (some ⟨E.b,0,none⟩))∧w'.cell? ⟨w.heap.size+1,1,none⟩=some (.int .i64 (k:Int))∧w'.cell? ⟨E.b,7+k,none⟩=some (.int .u16 x)) (by kernel_rfl) (hS1.out) (fun hHeld=>?_);refine tq 0 rfl ?_;refine tq 1 rfl ?_;refine tq 2 rfl ?_;refine tq 3 rfl ?_;refine tq 4 rfl ?_;refine tq 5 rfl ?_;refine tq 6 rfl ?_;refine tq 7 rfl ?_;refine tq 8 rfl ?_;refine tq 9 rfl ?_;refine rd1 10 rfl (fun K hK=>?_);go_simp
   ((go_at_call 140;(with_reducible refine(HC.out _ M1.out.drew).mono ?_));rintro e w2 ⟨rfl,S',hm2,hk2,hg2⟩;have M2:=Nc hm2;have KK:=Nc hk2;have G2:=Nc (aS (aO GG.out) hg2);clear hm2 hg2 hk2)
   go_wp2_with fail
   exact⟨rfl,Post.trr rfl rfl M2.out KK.out G2.out⟩
theorem yh(op:Int)(ho:op=83∨op=87∨op=91)(E:Env)(ov:Value)(S:Ms)(k:Nat)(s im ax bk sz:Int)(w:World)(h:Mc E ov S w)(hd:k < 8)(hi:InD ⟨op,k,s,im,ax,bk,sz⟩):
  Calls Tryz.prog 109 #[.pointer (some ⟨E.b,0,none⟩),.agg #[.int .i64 op,.int .i64 (k:Int),.int .i64 s,.int .u16 im,.int .u16 ax,.int .i64 bk,.int .i64 sz]] w fun e w'=>Post E ov S w (stB S (atP S ⟨op,k,s,im,ax,bk,sz⟩) (S.r k%256)) e w':=by
 have hlt:=h.lt;have hne0:E.b≠w.heap.size:=by omega
 have hne1:E.b≠w.heap.size+1:=by omega
 have hk8:(k:Int) < 8:=by omega
 have H0:=h.alloc (.cells #[.pointer (some ⟨E.b,0,none⟩)] 87);have HI0:=aG (w.alloc (.cells #[.pointer (some ⟨E.b,0,none⟩)] 87)) op k s im ax bk sz;rw[show(w.alloc (.cells #[.pointer (some ⟨E.b,0,none⟩)] 87)).heap.size=w.heap.size+1 by simp] at HI0;have hm0:=ae (aj _ (.cells #[.int .i64 op,.int .i64 (k:Int),.int .i64 s,.int .u16 im,.int .u16 ax,.int .i64 bk,.int .i64 sz] 58) _ (heap_alloc_new w (.cells #[.pointer (some ⟨E.b,0,none⟩)] 87))) 0 (.pointer (some ⟨E.b,0,none⟩)) rfl;have H1:=H0.alloc (.cells #[.int .i64 op,.int .i64 (k:Int),.int .i64 s,.int .u16 im,.int .u16 ax,.int .i64 bk,.int .i64 sz] 58);have G1:=aJ (aJ (ah w (some E.b)) (.cells #[.pointer (some ⟨E.b,0,none⟩)] 87)) (.cells #[.int .i64 op,.int .i64 (k:Int),.int .i64 s,.int .u16 im,.int .u16 ax,.int .i64 bk,.int .i64 sz] 58);obtain⟨W,hW⟩:∃ W,((w.alloc (.cells #[.pointer (some ⟨E.b,0,none⟩)] 87)).alloc (.cells #[.int .i64 op,.int .i64 (k:Int),.int .i64 s,.int .u16 im,.int .u16 ax,.int .i64 bk,.int .i64 sz] 58))=W:=⟨_,rfl⟩;have hsz:w.heap.size+1 < W.heap.size:=by rw[← hW];simp
 rw[hW] at HI0 hm0 H1 G1;have HI:=Nc HI0;have HM0:=Nc hm0;have H:=Nc H1;have HG:=Nc G1;have HA:=Nc (fJ E ov S ⟨op,k,s,im,ax,bk,sz⟩ W H1 hi);have HU:=Nc (lL S hi);have HOK:=Nc h.ok;have HB:=Nc (And.intro hi.b0 hi.b1);have HX:=Nc (show U16 ax from⟨hi.ok.a0,hi.ok.a1⟩);obtain⟨a,ha⟩:∃ a,atP S ⟨op,k,s,im,ax,bk,sz⟩=a:=⟨_,rfl⟩;rw[ha] at HA HU⊢;obtain⟨n0,n1,n2,n3,n4,n5,n6⟩:=HI0;have hmf:∀ (fn:Fn) (first cap:Array Value) (w:World),(Instr.makeFunc fn first cap).run Tryz.prog w= .ok (.func fn first cap) w:=fun _ _ _ _=>rfl
 clear ha h H0 H1 G1 hi;obtain⟨x,hx⟩:∃ x,S.r k=x:=⟨_,rfl⟩;have HXb:=Nc (hx▸HOK.out.r k hd);have hx0:=HXb.out.1;have hx1:=HXb.out.2;have HXe:=Nc hx;have hwx:IntKind.u8.wrap x=x%256:=IntKind.wrap_u8 x;rw[hx];have HC:=Nc (fun W' (hw:Mc E ov S W')=>tY E ov S a (x%256) W' hw (by omega) (by omega));obtain⟨r,hr⟩:∃ r,stB S a (x%256)=r:=⟨_,rfl⟩;have HRr:=Nc (fun (S':Ms) (hh:r= .ok S')=>(JG (hr.trans hh)));rw[hr] at HC⊢;clear hr hx;cases r with
 | ok S'=>
  have HRr':=Nc (HRr.out S' rfl);rcases ho with rfl|rfl|rfl;all_goals
   go_enter Tryz.func109,Tryz.ntmps109
   go_wp2_with fail
   refine HA.out.mono ?_;rintro e w1 ⟨rfl,hb1⟩;have M1:=Nc (H.out.kept hb1);have GG:=Nc (ak HG.out hb1);have I1:=Nc (Bxi.kept HI.out (ak (ah W (some E.b)) hb1) hne1);have P1:=Nc (cell_kept HM0.out (ak (ah W (some E.b)) hb1) hne0);have p0:=P1.out;have P1d:=Nc (show w1.drew.cell? ⟨w.heap.size,0,none⟩=some (.pointer (some ⟨E.b,0,none⟩)) from P1.out);have I5d:=Nc (show w1.drew.cell? ⟨w.heap.size+1,5,none⟩=some (.int .i64 bk) from I1.out.2.2.2.2.2.1);obtain⟨d0,d1,d2,d3,d4,d5,d6⟩:=I1.out;clear hb1 n0 n1 n2 n3 n4 n5 n6 hm0;go_wp2_with fail
   have hS1:=Nc (show(fun w'=>w'.cell? ⟨w.heap.size,0,none⟩=some (.pointer (some ⟨E.b,0,none⟩))∧w'.cell? ⟨w.heap.size+1,1,none⟩=some (.int .i64 (k:Int))∧w'.cell? ⟨E.b,7+k,none⟩=some (.int .u16 x)) w1.drew from⟨p0,d1,HXe.out▸M1.out.drew.cR k hd⟩);refine wp_region_held_drew (S:=fun w'=>w'.cell? ⟨w.heap.size,0,none⟩=some (.pointer (some ⟨E.b,0,none⟩))∧w'.cell? ⟨w.heap.size+1,1,none⟩=some (.int .i64 (k:Int))∧w'.cell? ⟨E.b,7+k,none⟩=some (.int .u16 x)) (by kernel_rfl) (hS1.out) (fun hHeld=>?_);refine tq 0 rfl ?_;refine tq 1 rfl ?_;refine tq 2 rfl ?_;refine tq 3 rfl ?_;refine tq 4 rfl ?_;refine tq 5 rfl ?_;refine tq 6 rfl ?_;refine tq 7 rfl ?_;refine tq 8 rfl ?_;refine tq 9 rfl ?_;refine tq 10 rfl ?_;refine rd1 11 rfl (fun K hK=>?_);go_simp
   ((go_at_call 141;(with_reducible refine(HC.out _ M1.out.drew).mono ?_));rintro e w2 ⟨rfl,hm2,hg2⟩;have M2:=Nc hm2;have G2:=Nc (aS (aO GG.out) hg2);have K1:=Nc (And.intro (cell_kept (w:=w1.drew) P1.out hg2 hne0) (And.intro (cell_kept (w:=w1.drew) I1.out.2.1 hg2 hne1) (show w2.cell? ⟨E.b,7+k,none⟩=some (.int .u16 x) from HXe.out▸HRr'.out▸hm2.cR k hd)));clear hm2 hg2)
   go_wp2_with fail
   refine hK.out _ _ (K1.out) (fun hHeld=>?_);clear hK K
   try simp only[lay]
   refine wpAnyH_done (by kernel_rfl) ?_ _;go_wp2_with fail
   go_end0
   exact Post.okk rfl rfl M2.out G2.out
 | tr t i=>
  rcases ho with rfl|rfl|rfl;all_goals
   go_enter Tryz.func109,Tryz.ntmps109
   go_wp2_with fail
   refine HA.out.mono ?_;rintro e w1 ⟨rfl,hb1⟩;have M1:=Nc (H.out.kept hb1);have GG:=Nc (ak HG.out hb1);have I1:=Nc (Bxi.kept HI.out (ak (ah W (some E.b)) hb1) hne1);have P1:=Nc (cell_kept HM0.out (ak (ah W (some E.b)) hb1) hne0);have p0:=P1.out;have P1d:=Nc (show w1.drew.cell? ⟨w.heap.size,0,none⟩=some (.pointer (some ⟨E.b,0,none⟩)) from P1.out);have I5d:=Nc (show w1.drew.cell? ⟨w.heap.size+1,5,none⟩=some (.int .i64 bk) from I1.out.2.2.2.2.2.1);obtain⟨d0,d1,d2,d3,d4,d5,d6⟩:=I1.out;clear hb1 n0 n1 n2 n3 n4 n5 n6 hm0;go_wp2_with fail
   have hS1:=Nc (show(fun w'=>w'.cell? ⟨w.heap.size,0,none⟩=some (.pointer (some ⟨E.b,0,none⟩))∧w'.cell? ⟨w.heap.size+1,1,none⟩=some (.int .i64 (k:Int))∧w'.cell? ⟨E.b,7+k,none⟩=some (.int .u16 x)) w1.drew from⟨p0,d1,HXe.out▸M1.out.drew.cR k hd⟩);refine wp_region_held_drew (S:=fun w'=>w'.cell? ⟨w.heap.size,0,none⟩=some (.pointer (some ⟨E.b,0,none⟩))∧w'.cell? ⟨w.heap.size+1,1,none⟩=some (.int .i64 (k:Int))∧w'.cell? ⟨E.b,7+k,none⟩=some (.int .u16 x)) (by kernel_rfl) (hS1.out) (fun hHeld=>?_);refine tq 0 rfl ?_;refine tq 1 rfl ?_;refine tq 2 rfl ?_;refine tq 3 rfl ?_;refine tq 4 rfl ?_;refine tq 5 rfl ?_;refine tq 6 rfl ?_;refine tq 7 rfl ?_;refine tq 8 rfl ?_;refine tq 9 rfl ?_;refine tq 10 rfl ?_;refine rd1 11 rfl (fun K hK=>?_);go_simp
   ((go_at_call 141;(with_reducible refine(HC.out _ M1.out.drew).mono ?_));rintro e w2 ⟨rfl,S',hm2,hk2,hg2⟩;have M2:=Nc hm2;have KK:=Nc hk2;have G2:=Nc (aS (aO GG.out) hg2);clear hm2 hg2 hk2)
   go_wp2_with fail
   exact⟨rfl,Post.trr rfl rfl M2.out KK.out G2.out⟩
theorem GU(E:Env)(ov:Value)(S:Ms)(k:Nat)(s im ax bk sz:Int)(w:World)(h:Mc E ov S w)(hd:k < 8)(hi:InD ⟨150,k,s,im,ax,bk,sz⟩):
  Calls Tryz.prog 109 #[.pointer (some ⟨E.b,0,none⟩),.agg #[.int .i64 150,.int .i64 (k:Int),.int .i64 s,.int .u16 im,.int .u16 ax,.int .i64 bk,.int .i64 sz]] w fun e w'=>Post E ov S w (stW S (atP S ⟨150,k,s,im,ax,bk,sz⟩) ax) e w':=by
 have hlt:=h.lt;have hne0:E.b≠w.heap.size:=by omega
 have hne1:E.b≠w.heap.size+1:=by omega
 have hk8:(k:Int) < 8:=by omega
 have H0:=h.alloc (.cells #[.pointer (some ⟨E.b,0,none⟩)] 87);have HI0:=aG (w.alloc (.cells #[.pointer (some ⟨E.b,0,none⟩)] 87)) 150 k s im ax bk sz;rw[show(w.alloc (.cells #[.pointer (some ⟨E.b,0,none⟩)] 87)).heap.size=w.heap.size+1 by simp] at HI0;have hm0:=ae (aj _ (.cells #[.int .i64 150,.int .i64 (k:Int),.int .i64 s,.int .u16 im,.int .u16 ax,.int .i64 bk,.int .i64 sz] 58) _ (heap_alloc_new w (.cells #[.pointer (some ⟨E.b,0,none⟩)] 87))) 0 (.pointer (some ⟨E.b,0,none⟩)) rfl;have H1:=H0.alloc (.cells #[.int .i64 150,.int .i64 (k:Int),.int .i64 s,.int .u16 im,.int .u16 ax,.int .i64 bk,.int .i64 sz] 58);have G1:=aJ (aJ (ah w (some E.b)) (.cells #[.pointer (some ⟨E.b,0,none⟩)] 87)) (.cells #[.int .i64 150,.int .i64 (k:Int),.int .i64 s,.int .u16 im,.int .u16 ax,.int .i64 bk,.int .i64 sz] 58);obtain⟨W,hW⟩:∃ W,((w.alloc (.cells #[.pointer (some ⟨E.b,0,none⟩)] 87)).alloc (.cells #[.int .i64 150,.int .i64 (k:Int),.int .i64 s,.int .u16 im,.int .u16 ax,.int .i64 bk,.int .i64 sz] 58))=W:=⟨_,rfl⟩;have hsz:w.heap.size+1 < W.heap.size:=by rw[← hW];simp
 rw[hW] at HI0 hm0 H1 G1;have HI:=Nc HI0;have HM0:=Nc hm0;have H:=Nc H1;have HG:=Nc G1;have HA:=Nc (fJ E ov S ⟨150,k,s,im,ax,bk,sz⟩ W H1 hi);have HU:=Nc (lL S hi);have HOK:=Nc h.ok;have HB:=Nc (And.intro hi.b0 hi.b1);have HX:=Nc (show U16 ax from⟨hi.ok.a0,hi.ok.a1⟩);obtain⟨a,ha⟩:∃ a,atP S ⟨150,k,s,im,ax,bk,sz⟩=a:=⟨_,rfl⟩;rw[ha] at HA HU⊢;obtain⟨n0,n1,n2,n3,n4,n5,n6⟩:=HI0;have hmf:∀ (fn:Fn) (first cap:Array Value) (w:World),(Instr.makeFunc fn first cap).run Tryz.prog w= .ok (.func fn first cap) w:=fun _ _ _ _=>rfl
 clear ha h H0 H1 G1 hi;have HC:=Nc (fun W' (hw:Mc E ov S W')=>kV E ov S a ax W' hw HU.out HX.out);obtain⟨r,hr⟩:∃ r,stW S a ax=r:=⟨_,rfl⟩;rw[hr] at HC⊢;clear hr;go_enter Tryz.func109,Tryz.ntmps109
 go_wp2_with fail
 refine HA.out.mono ?_;rintro e w1 ⟨rfl,hb1⟩;have M1:=Nc (H.out.kept hb1);have GG:=Nc (ak HG.out hb1);have I1:=Nc (Bxi.kept HI.out (ak (ah W (some E.b)) hb1) hne1);have P1:=Nc (cell_kept HM0.out (ak (ah W (some E.b)) hb1) hne0);have p0:=P1.out;have P1d:=Nc (show w1.drew.cell? ⟨w.heap.size,0,none⟩=some (.pointer (some ⟨E.b,0,none⟩)) from P1.out);have I5d:=Nc (show w1.drew.cell? ⟨w.heap.size+1,5,none⟩=some (.int .i64 bk) from I1.out.2.2.2.2.2.1);obtain⟨d0,d1,d2,d3,d4,d5,d6⟩:=I1.out;clear hb1 n0 n1 n2 n3 n4 n5 n6 hm0;go_wp2_with fail
 refine(HC.out _ M1.out).mono ?_;rintro e w2 hp;cases r with
 | ok S'=>
  obtain⟨rfl,hm2,hg2⟩:=hp;have M2:=Nc hm2;have G2:=Nc (aS GG.out hg2);clear hm2 hg2;go_wp2_with fail
  go_end0
  exact Post.okk rfl rfl M2.out G2.out
 | tr t i=>
  obtain⟨rfl,S',hm2,hk2,hg2⟩:=hp;have M2:=Nc hm2;have KK:=Nc hk2;have G2:=Nc (aS GG.out hg2);clear hm2 hg2 hk2;go_wp2_with fail
  exact⟨rfl,Post.trr rfl rfl M2.out KK.out G2.out⟩
end Go.Proofs.YthkcloapiefggaaGreatDoor
