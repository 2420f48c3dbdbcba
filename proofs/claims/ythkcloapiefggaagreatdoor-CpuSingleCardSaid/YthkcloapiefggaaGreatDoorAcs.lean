/- Instructions that access RAM or constants. -/
import Derived.Test.YthkcloapiefggaaGreatDoorOut
namespace Go.Proofs.YthkcloapiefggaaGreatDoor
set_option linter.unusedVariables false
set_option linter.unusedSimpArgs false
set_option maxRecDepth 100000
set_option maxHeartbeats 1000000
open Go.ChangeShapes Go.WideShapes Go.RowKit
theorem atP_bd (S:Ms) {i:Ins} (h:InD i):U16 (atP S i):=by
 unfold atP
 split
 ·exact⟨h.ok.m0,h.ok.m1⟩
 ·exact u16m _
theorem wdP_bd {ok:Int→Bool} {val:Int→Int} (h:∀ x,ok x=true→0≤val x∧val x < 256) {a v:Int} (hv:wdP ok val a= .ok v):U16 v:=by
 unfold wdP at hv
 split at hv
 ·rename_i h1
  split at hv
  ·rename_i h2
   have a1:=h _ h1
   have a2:=h _ h2
   injection hv with hv
   subst hv
   exact⟨by omega,by omega⟩
  ·cases hv
 ·cases hv
theorem stW_r {S S':Ms} {a v:Int} (h:stW S a v= .ok S'):S'.r=S.r:=by
 unfold stW at h
 split at h
 ·split at h
  ·injection h with h;subst h;rfl
  ·cases h
 ·cases h
theorem acs_ld (op:Int) (ho:op=80∨op=84∨op=88) (E:Env) (ov:Value) (S:Ms) (k:Nat) (s im ax bk sz:Int) (w:World) (h:Mc E ov S w) (hd:k < 8) (hi:InD ⟨op,k,s,im,ax,bk,sz⟩):
  Calls Tryz.prog 109 #[.pointer (some ⟨E.b,0,none⟩),.agg #[.int .i64 op,.int .i64 (k:Int),.int .i64 s,.int .u16 im,.int .u16 ax,.int .i64 bk,.int .i64 sz]] w fun e w'=>Post E ov S w ((wdP ramB (ramV S) (atP S ⟨op,k,s,im,ax,bk,sz⟩)).to (setR S k)) e w':=by
 have hlt:=h.lt
 have hne0:E.b≠w.heap.size:=by omega
 have hne1:E.b≠w.heap.size+1:=by omega
 have hk8:(k:Int) < 8:=by omega
 have H0:=h.alloc (.cells #[.pointer (some ⟨E.b,0,none⟩)] 87)
 have HI0:=ins_new (w.alloc (.cells #[.pointer (some ⟨E.b,0,none⟩)] 87)) op k s im ax bk sz
 rw[show(w.alloc (.cells #[.pointer (some ⟨E.b,0,none⟩)] 87)).heap.size=w.heap.size+1 by simp] at HI0
 have hm0:=block_cells (heap_old _ (.cells #[.int .i64 op,.int .i64 (k:Int),.int .i64 s,.int .u16 im,.int .u16 ax,.int .i64 bk,.int .i64 sz] 58) _ (heap_alloc_new w (.cells #[.pointer (some ⟨E.b,0,none⟩)] 87))) 0 (.pointer (some ⟨E.b,0,none⟩)) rfl
 have H1:=H0.alloc (.cells #[.int .i64 op,.int .i64 (k:Int),.int .i64 s,.int .u16 im,.int .u16 ax,.int .i64 bk,.int .i64 sz] 58)
 have G1:=gb_alloc (gb_alloc (gb_refl w (some E.b)) (.cells #[.pointer (some ⟨E.b,0,none⟩)] 87)) (.cells #[.int .i64 op,.int .i64 (k:Int),.int .i64 s,.int .u16 im,.int .u16 ax,.int .i64 bk,.int .i64 sz] 58)
 obtain⟨W,hW⟩:∃ W,((w.alloc (.cells #[.pointer (some ⟨E.b,0,none⟩)] 87)).alloc (.cells #[.int .i64 op,.int .i64 (k:Int),.int .i64 s,.int .u16 im,.int .u16 ax,.int .i64 bk,.int .i64 sz] 58))=W:=⟨_,rfl⟩
 have hsz:w.heap.size+1 < W.heap.size:=by rw[← hW];simp
 rw[hW] at HI0 hm0 H1 G1
 have HI:=Lib.hid HI0
 have HM0:=Lib.hid hm0
 have H:=Lib.hid H1
 have HG:=Lib.hid G1
 have HA:=Lib.hid (accessed_any E ov S ⟨op,k,s,im,ax,bk,sz⟩ W H1 hi)
 have HU:=Lib.hid (atP_bd S hi)
 have HOK:=Lib.hid h.ok
 have HB:=Lib.hid (And.intro hi.b0 hi.b1)
 have HX:=Lib.hid (show U16 ax from⟨hi.ok.a0,hi.ok.a1⟩)
 obtain⟨a,ha⟩:∃ a,atP S ⟨op,k,s,im,ax,bk,sz⟩=a:=⟨_,rfl⟩
 rw[ha] at HA HU ⊢
 obtain⟨n0,n1,n2,n3,n4,n5,n6⟩:=HI0
 have hmf:∀ (fn:Fn) (first cap:Array Value) (w:World),(Instr.makeFunc fn first cap).run Tryz.prog w= .ok (.func fn first cap) w:=fun _ _ _ _=>rfl
 clear ha h H0 H1 G1 hi
 obtain⟨V,hV⟩:∃ V,wdP ramB (ramV S) a=V:=⟨_,rfl⟩
 have HVB0:=Lib.hid (fun (v:Int) (hv:V= .ok v)=>wdP_bd (fun x hx=>ramV_bd HOK.out hx) (hV.trans hv))
 have HC:=Lib.hid (fun W' (hw:Mc E ov S W')=>wordRam_any E ov S a W' hw HU.out)
 rw[hV] at HC ⊢
 clear hV
 cases V with
 | ok v=>
  have HVB:=Lib.hid (HVB0.out v rfl)
  rcases ho with rfl | rfl | rfl
  all_goals
   go_enter Tryz.func109,Tryz.ntmps109
   go_wp2_with fail
   refine HA.out.mono ?_
   rintro e w1 ⟨rfl,hb1⟩
   have M1:=Lib.hid (H.out.kept hb1)
   have GG:=Lib.hid (gb_below HG.out hb1)
   have I1:=Lib.hid (Bxi.kept HI.out (gb_below (gb_refl W (some E.b)) hb1) hne1)
   have P1:=Lib.hid (cell_kept HM0.out (gb_below (gb_refl W (some E.b)) hb1) hne0)
   have p0:=P1.out
   have P1d:=Lib.hid (show w1.drew.cell? ⟨w.heap.size,0,none⟩=some (.pointer (some ⟨E.b,0,none⟩)) from P1.out)
   have I5d:=Lib.hid (show w1.drew.cell? ⟨w.heap.size+1,5,none⟩=some (.int .i64 bk) from I1.out.2.2.2.2.2.1)
   obtain⟨d0,d1,d2,d3,d4,d5,d6⟩:=I1.out
   clear hb1 n0 n1 n2 n3 n4 n5 n6 hm0
   go_wp2_with fail
   have hS1:=Lib.hid (And.intro p0 d1)
   refine wp_region_held_drew (S:=fun w'=>w'.cell? ⟨w.heap.size,0,none⟩=some (.pointer (some ⟨E.b,0,none⟩))∧w'.cell? ⟨w.heap.size+1,1,none⟩=some (.int .i64 (k:Int))) (by kernel_rfl) (hS1.out) (fun hHeld=>?_)
   refine tq 0 rfl ?_
   refine tq 1 rfl ?_
   refine tq 2 rfl ?_
   refine tq 3 rfl ?_
   refine tq 4 rfl ?_
   refine tq 5 rfl ?_
   refine tq 7 rfl ?_
   refine tq 8 rfl ?_
   refine tq 9 rfl ?_
   refine rd1 6 rfl (fun K hK=>?_)
   go_simp
   ((go_at_call 138;(with_reducible refine(HC.out _ M1.out.drew).mono ?_));rintro e w2 ⟨he,hb2⟩;have he':e= .returned (.int .u16 v):=he;subst he';have M2:=Lib.hid ((M1.out.drew.kept hb2).setR k hd v HVB.out);have G2:=Lib.hid (gb_set (gb_below (gb_drew GG.out) hb2) (7+k) (.int .u16 v));have K1:=Lib.hid (And.intro (cell_kept (w:=w1.drew) P1.out (gb_below (gb_refl _ (some E.b)) hb2) hne0) (cell_kept (w:=w1.drew) I1.out.2.1 (gb_below (gb_refl _ (some E.b)) hb2) hne1));have K2:=Lib.hid (And.intro (cell_set (i:=7+k) (v:= .int .u16 v) K1.out.1 hne0) (cell_set (i:=7+k) (v:= .int .u16 v) K1.out.2 hne1));have ck1:=(M1.out.drew.kept hb2).cR k hd;have cf1:=(M1.out.drew.kept hb2).frz;clear hb2 he)
   go_wp2_with fail
   refine hK.out _ _ (K1.out) (fun hHeld=>?_)
   clear hK K
   try simp only[lay]
   refine tq 10 rfl ?_
   refine rd1 11 rfl (fun K hK=>?_)
   go_simp
   refine hK.out _ _ (K2.out) (fun hHeld=>?_)
   clear hK K
   try simp only[lay]
   refine wpAnyH_done (by kernel_rfl) ?_ _
   go_wp2_with fail
   go_end0
   exact Post.okk rfl rfl M2.out G2.out
 | tr t i=>
  rcases ho with rfl | rfl | rfl
  all_goals
   go_enter Tryz.func109,Tryz.ntmps109
   go_wp2_with fail
   refine HA.out.mono ?_
   rintro e w1 ⟨rfl,hb1⟩
   have M1:=Lib.hid (H.out.kept hb1)
   have GG:=Lib.hid (gb_below HG.out hb1)
   have I1:=Lib.hid (Bxi.kept HI.out (gb_below (gb_refl W (some E.b)) hb1) hne1)
   have P1:=Lib.hid (cell_kept HM0.out (gb_below (gb_refl W (some E.b)) hb1) hne0)
   have p0:=P1.out
   have P1d:=Lib.hid (show w1.drew.cell? ⟨w.heap.size,0,none⟩=some (.pointer (some ⟨E.b,0,none⟩)) from P1.out)
   have I5d:=Lib.hid (show w1.drew.cell? ⟨w.heap.size+1,5,none⟩=some (.int .i64 bk) from I1.out.2.2.2.2.2.1)
   obtain⟨d0,d1,d2,d3,d4,d5,d6⟩:=I1.out
   clear hb1 n0 n1 n2 n3 n4 n5 n6 hm0
   go_wp2_with fail
   have hS1:=Lib.hid (And.intro p0 d1)
   refine wp_region_held_drew (S:=fun w'=>w'.cell? ⟨w.heap.size,0,none⟩=some (.pointer (some ⟨E.b,0,none⟩))∧w'.cell? ⟨w.heap.size+1,1,none⟩=some (.int .i64 (k:Int))) (by kernel_rfl) (hS1.out) (fun hHeld=>?_)
   refine tq 0 rfl ?_
   refine tq 1 rfl ?_
   refine tq 2 rfl ?_
   refine tq 3 rfl ?_
   refine tq 4 rfl ?_
   refine tq 5 rfl ?_
   refine tq 7 rfl ?_
   refine tq 8 rfl ?_
   refine tq 9 rfl ?_
   refine rd1 6 rfl (fun K hK=>?_)
   go_simp
   ((go_at_call 138;(with_reducible refine(HC.out _ M1.out.drew).mono ?_));rintro e w2 ⟨he,hb2⟩;have he':e= .panicked (trapE t i):=he;subst he';have M2:=Lib.hid (M1.out.drew.kept hb2);have G2:=Lib.hid (gb_below (gb_drew GG.out) hb2);clear hb2 he)
   go_wp2_with fail
   exact⟨rfl,Post.trr rfl rfl M2.out (Kp.refl S) G2.out⟩
theorem acs_lb (op:Int) (ho:op=81∨op=85∨op=89) (E:Env) (ov:Value) (S:Ms) (k:Nat) (s im ax bk sz:Int) (w:World) (h:Mc E ov S w) (hd:k < 8) (hi:InD ⟨op,k,s,im,ax,bk,sz⟩):
  Calls Tryz.prog 109 #[.pointer (some ⟨E.b,0,none⟩),.agg #[.int .i64 op,.int .i64 (k:Int),.int .i64 s,.int .u16 im,.int .u16 ax,.int .i64 bk,.int .i64 sz]] w fun e w'=>Post E ov S w ((byP (ramB) (ramV S) (atP S ⟨op,k,s,im,ax,bk,sz⟩)).to (setR S k)) e w':=by
 have hlt:=h.lt
 have hne0:E.b≠w.heap.size:=by omega
 have hne1:E.b≠w.heap.size+1:=by omega
 have hk8:(k:Int) < 8:=by omega
 have H0:=h.alloc (.cells #[.pointer (some ⟨E.b,0,none⟩)] 87)
 have HI0:=ins_new (w.alloc (.cells #[.pointer (some ⟨E.b,0,none⟩)] 87)) op k s im ax bk sz
 rw[show(w.alloc (.cells #[.pointer (some ⟨E.b,0,none⟩)] 87)).heap.size=w.heap.size+1 by simp] at HI0
 have hm0:=block_cells (heap_old _ (.cells #[.int .i64 op,.int .i64 (k:Int),.int .i64 s,.int .u16 im,.int .u16 ax,.int .i64 bk,.int .i64 sz] 58) _ (heap_alloc_new w (.cells #[.pointer (some ⟨E.b,0,none⟩)] 87))) 0 (.pointer (some ⟨E.b,0,none⟩)) rfl
 have H1:=H0.alloc (.cells #[.int .i64 op,.int .i64 (k:Int),.int .i64 s,.int .u16 im,.int .u16 ax,.int .i64 bk,.int .i64 sz] 58)
 have G1:=gb_alloc (gb_alloc (gb_refl w (some E.b)) (.cells #[.pointer (some ⟨E.b,0,none⟩)] 87)) (.cells #[.int .i64 op,.int .i64 (k:Int),.int .i64 s,.int .u16 im,.int .u16 ax,.int .i64 bk,.int .i64 sz] 58)
 obtain⟨W,hW⟩:∃ W,((w.alloc (.cells #[.pointer (some ⟨E.b,0,none⟩)] 87)).alloc (.cells #[.int .i64 op,.int .i64 (k:Int),.int .i64 s,.int .u16 im,.int .u16 ax,.int .i64 bk,.int .i64 sz] 58))=W:=⟨_,rfl⟩
 have hsz:w.heap.size+1 < W.heap.size:=by rw[← hW];simp
 rw[hW] at HI0 hm0 H1 G1
 have HI:=Lib.hid HI0
 have HM0:=Lib.hid hm0
 have H:=Lib.hid H1
 have HG:=Lib.hid G1
 have HA:=Lib.hid (accessed_any E ov S ⟨op,k,s,im,ax,bk,sz⟩ W H1 hi)
 have HU:=Lib.hid (atP_bd S hi)
 have HOK:=Lib.hid h.ok
 have HB:=Lib.hid (And.intro hi.b0 hi.b1)
 have HX:=Lib.hid (show U16 ax from⟨hi.ok.a0,hi.ok.a1⟩)
 obtain⟨a,ha⟩:∃ a,atP S ⟨op,k,s,im,ax,bk,sz⟩=a:=⟨_,rfl⟩
 rw[ha] at HA HU ⊢
 obtain⟨n0,n1,n2,n3,n4,n5,n6⟩:=HI0
 have hmf:∀ (fn:Fn) (first cap:Array Value) (w:World),(Instr.makeFunc fn first cap).run Tryz.prog w= .ok (.func fn first cap) w:=fun _ _ _ _=>rfl
 clear ha h H0 H1 G1 hi
 have HC:=Lib.hid (fun W' (hw:Mc E ov S W')=>ramByte_is E ov S a W' hw)
 have HE:=Lib.hid (show byP (ramB) (ramV S) a=if ramB a=true then .ok (ramV S a) else .tr 2 a from rfl)
 have HVB0:=Lib.hid (fun (hr:ramB a=true)=>ramV_bd HOK.out hr)
 obtain⟨r,hr⟩:∃ r,ramB a=r:=⟨_,rfl⟩
 obtain⟨v,hv⟩:∃ v,ramV S a=v:=⟨_,rfl⟩
 rw[hr,hv] at HC HE HVB0
 obtain⟨V,hV⟩:∃ V,byP (ramB) (ramV S) a=V:=⟨_,rfl⟩
 rw[hV] at HE ⊢
 clear hr hv hV
 cases r with
 | true=>
  have HE1:=HE.out.trans (if_pos rfl)
  subst HE1
  have hvb:=HVB0.out rfl
  have HVB:=Lib.hid (show U16 v from⟨hvb.1,by omega⟩)
  have hv0:=hvb.1
  have hv1:=hvb.2
  have hwv:IntKind.u16.wrap v=v:=by rw[IntKind.wrap_u16];omega
  clear hvb
  rcases ho with rfl | rfl | rfl
  all_goals
   go_enter Tryz.func109,Tryz.ntmps109
   go_wp2_with fail
   refine HA.out.mono ?_
   rintro e w1 ⟨rfl,hb1⟩
   have M1:=Lib.hid (H.out.kept hb1)
   have GG:=Lib.hid (gb_below HG.out hb1)
   have I1:=Lib.hid (Bxi.kept HI.out (gb_below (gb_refl W (some E.b)) hb1) hne1)
   have P1:=Lib.hid (cell_kept HM0.out (gb_below (gb_refl W (some E.b)) hb1) hne0)
   have p0:=P1.out
   have P1d:=Lib.hid (show w1.drew.cell? ⟨w.heap.size,0,none⟩=some (.pointer (some ⟨E.b,0,none⟩)) from P1.out)
   have I5d:=Lib.hid (show w1.drew.cell? ⟨w.heap.size+1,5,none⟩=some (.int .i64 bk) from I1.out.2.2.2.2.2.1)
   obtain⟨d0,d1,d2,d3,d4,d5,d6⟩:=I1.out
   clear hb1 n0 n1 n2 n3 n4 n5 n6 hm0
   go_wp2_with fail
   have hS1:=Lib.hid (And.intro p0 d1)
   refine wp_region_held_drew (S:=fun w'=>w'.cell? ⟨w.heap.size,0,none⟩=some (.pointer (some ⟨E.b,0,none⟩))∧w'.cell? ⟨w.heap.size+1,1,none⟩=some (.int .i64 (k:Int))) (by kernel_rfl) (hS1.out) (fun hHeld=>?_)
   refine tq 0 rfl ?_
   refine tq 1 rfl ?_
   refine tq 2 rfl ?_
   refine tq 3 rfl ?_
   refine tq 4 rfl ?_
   refine tq 7 rfl ?_
   refine tq 8 rfl ?_
   refine tq 9 rfl ?_
   refine rd1 5 rfl (fun K hK=>?_)
   go_simp
   ((go_at_call 139;(with_reducible refine(HC.out _ M1.out.drew).mono ?_));rintro e w2 ⟨he,hb2⟩;obtain rfl:=PV.yes rfl he;have M2:=Lib.hid ((M1.out.drew.kept hb2).setR k hd v HVB.out);have G2:=Lib.hid (gb_set (gb_below (gb_drew GG.out) hb2) (7+k) (.int .u16 v));have K1:=Lib.hid (And.intro (cell_kept (w:=w1.drew) P1.out (gb_below (gb_refl _ (some E.b)) hb2) hne0) (cell_kept (w:=w1.drew) I1.out.2.1 (gb_below (gb_refl _ (some E.b)) hb2) hne1));have K2:=Lib.hid (And.intro (cell_set (i:=7+k) (v:= .int .u16 v) K1.out.1 hne0) (cell_set (i:=7+k) (v:= .int .u16 v) K1.out.2 hne1));have ck1:=(M1.out.drew.kept hb2).cR k hd;have cf1:=(M1.out.drew.kept hb2).frz;clear hb2 he)
   go_wp2_with fail
   refine hK.out _ _ (K1.out) (fun hHeld=>?_)
   clear hK K
   try simp only[lay]
   refine tq 6 rfl ?_
   refine tq 10 rfl ?_
   refine rd1 11 rfl (fun K hK=>?_)
   go_simp
   refine hK.out _ _ (K2.out) (fun hHeld=>?_)
   clear hK K
   try simp only[lay]
   refine wpAnyH_done (by kernel_rfl) ?_ _
   go_wp2_with fail
   go_end0
   exact Post.okk rfl rfl M2.out G2.out
 | false=>
  have HE1:=HE.out.trans (if_neg (by decide))
  subst HE1
  rcases ho with rfl | rfl | rfl
  all_goals
   go_enter Tryz.func109,Tryz.ntmps109
   go_wp2_with fail
   refine HA.out.mono ?_
   rintro e w1 ⟨rfl,hb1⟩
   have M1:=Lib.hid (H.out.kept hb1)
   have GG:=Lib.hid (gb_below HG.out hb1)
   have I1:=Lib.hid (Bxi.kept HI.out (gb_below (gb_refl W (some E.b)) hb1) hne1)
   have P1:=Lib.hid (cell_kept HM0.out (gb_below (gb_refl W (some E.b)) hb1) hne0)
   have p0:=P1.out
   have P1d:=Lib.hid (show w1.drew.cell? ⟨w.heap.size,0,none⟩=some (.pointer (some ⟨E.b,0,none⟩)) from P1.out)
   have I5d:=Lib.hid (show w1.drew.cell? ⟨w.heap.size+1,5,none⟩=some (.int .i64 bk) from I1.out.2.2.2.2.2.1)
   obtain⟨d0,d1,d2,d3,d4,d5,d6⟩:=I1.out
   clear hb1 n0 n1 n2 n3 n4 n5 n6 hm0
   go_wp2_with fail
   have hS1:=Lib.hid (And.intro p0 d1)
   refine wp_region_held_drew (S:=fun w'=>w'.cell? ⟨w.heap.size,0,none⟩=some (.pointer (some ⟨E.b,0,none⟩))∧w'.cell? ⟨w.heap.size+1,1,none⟩=some (.int .i64 (k:Int))) (by kernel_rfl) (hS1.out) (fun hHeld=>?_)
   refine tq 0 rfl ?_
   refine tq 1 rfl ?_
   refine tq 2 rfl ?_
   refine tq 3 rfl ?_
   refine tq 4 rfl ?_
   refine tq 7 rfl ?_
   refine tq 8 rfl ?_
   refine tq 9 rfl ?_
   refine rd1 5 rfl (fun K hK=>?_)
   go_simp
   ((go_at_call 139;(with_reducible refine(HC.out _ M1.out.drew).mono ?_));rintro e w2 ⟨he,hb2⟩;obtain rfl:=PV.no rfl he;have M2:=Lib.hid (M1.out.drew.kept hb2);have G2:=Lib.hid (gb_below (gb_drew GG.out) hb2);clear hb2 he)
   go_wp2_with fail
   exact⟨rfl,Post.trr rfl rfl M2.out (Kp.refl S) G2.out⟩
theorem acs_146 (E:Env) (ov:Value) (S:Ms) (k:Nat) (s im ax bk sz:Int) (w:World) (h:Mc E ov S w) (hd:k < 8) (hi:InD ⟨146,k,s,im,ax,bk,sz⟩):
  Calls Tryz.prog 109 #[.pointer (some ⟨E.b,0,none⟩),.agg #[.int .i64 146,.int .i64 (k:Int),.int .i64 s,.int .u16 im,.int .u16 ax,.int .i64 bk,.int .i64 sz]] w fun e w'=>Post E ov S w ((wdP (romB E.I bk) (romV E.I bk) (atP S ⟨146,k,s,im,ax,bk,sz⟩)).to (setR S k)) e w':=by
 have hlt:=h.lt
 have hne0:E.b≠w.heap.size:=by omega
 have hne1:E.b≠w.heap.size+1:=by omega
 have hk8:(k:Int) < 8:=by omega
 have H0:=h.alloc (.cells #[.pointer (some ⟨E.b,0,none⟩)] 87)
 have HI0:=ins_new (w.alloc (.cells #[.pointer (some ⟨E.b,0,none⟩)] 87)) 146 k s im ax bk sz
 rw[show(w.alloc (.cells #[.pointer (some ⟨E.b,0,none⟩)] 87)).heap.size=w.heap.size+1 by simp] at HI0
 have hm0:=block_cells (heap_old _ (.cells #[.int .i64 146,.int .i64 (k:Int),.int .i64 s,.int .u16 im,.int .u16 ax,.int .i64 bk,.int .i64 sz] 58) _ (heap_alloc_new w (.cells #[.pointer (some ⟨E.b,0,none⟩)] 87))) 0 (.pointer (some ⟨E.b,0,none⟩)) rfl
 have H1:=H0.alloc (.cells #[.int .i64 146,.int .i64 (k:Int),.int .i64 s,.int .u16 im,.int .u16 ax,.int .i64 bk,.int .i64 sz] 58)
 have G1:=gb_alloc (gb_alloc (gb_refl w (some E.b)) (.cells #[.pointer (some ⟨E.b,0,none⟩)] 87)) (.cells #[.int .i64 146,.int .i64 (k:Int),.int .i64 s,.int .u16 im,.int .u16 ax,.int .i64 bk,.int .i64 sz] 58)
 obtain⟨W,hW⟩:∃ W,((w.alloc (.cells #[.pointer (some ⟨E.b,0,none⟩)] 87)).alloc (.cells #[.int .i64 146,.int .i64 (k:Int),.int .i64 s,.int .u16 im,.int .u16 ax,.int .i64 bk,.int .i64 sz] 58))=W:=⟨_,rfl⟩
 have hsz:w.heap.size+1 < W.heap.size:=by rw[← hW];simp
 rw[hW] at HI0 hm0 H1 G1
 have HI:=Lib.hid HI0
 have HM0:=Lib.hid hm0
 have H:=Lib.hid H1
 have HG:=Lib.hid G1
 have HA:=Lib.hid (accessed_any E ov S ⟨146,k,s,im,ax,bk,sz⟩ W H1 hi)
 have HU:=Lib.hid (atP_bd S hi)
 have HOK:=Lib.hid h.ok
 have HB:=Lib.hid (And.intro hi.b0 hi.b1)
 have HX:=Lib.hid (show U16 ax from⟨hi.ok.a0,hi.ok.a1⟩)
 obtain⟨a,ha⟩:∃ a,atP S ⟨146,k,s,im,ax,bk,sz⟩=a:=⟨_,rfl⟩
 rw[ha] at HA HU ⊢
 obtain⟨n0,n1,n2,n3,n4,n5,n6⟩:=HI0
 have hmf:∀ (fn:Fn) (first cap:Array Value) (w:World),(Instr.makeFunc fn first cap).run Tryz.prog w= .ok (.func fn first cap) w:=fun _ _ _ _=>rfl
 clear ha h H0 H1 G1 hi
 obtain⟨V,hV⟩:∃ V,wdP (romB E.I bk) (romV E.I bk) a=V:=⟨_,rfl⟩
 have HVB0:=Lib.hid (fun (v:Int) (hv:V= .ok v)=>wdP_bd (fun x hx=>romV_bd E.I bk x) (hV.trans hv))
 have HC:=Lib.hid (fun W' (hw:Mc E ov S W') (hp:W'.cell? ⟨w.heap.size,0,none⟩=some (.pointer (some ⟨E.b,0,none⟩))) (hq:W'.cell? ⟨w.heap.size+1,5,none⟩=some (.int .i64 bk))=>wordRom_any E ov S a bk w.heap.size (w.heap.size+1) W' hw HU.out HB.out.1 HB.out.2 hp hq)
 rw[hV] at HC ⊢
 clear hV
 cases V with
 | ok v=>
  have HVB:=Lib.hid (HVB0.out v rfl)
  go_enter Tryz.func109,Tryz.ntmps109
  go_wp2_with fail
  refine HA.out.mono ?_
  rintro e w1 ⟨rfl,hb1⟩
  have M1:=Lib.hid (H.out.kept hb1)
  have GG:=Lib.hid (gb_below HG.out hb1)
  have I1:=Lib.hid (Bxi.kept HI.out (gb_below (gb_refl W (some E.b)) hb1) hne1)
  have P1:=Lib.hid (cell_kept HM0.out (gb_below (gb_refl W (some E.b)) hb1) hne0)
  have p0:=P1.out
  have P1d:=Lib.hid (show w1.drew.cell? ⟨w.heap.size,0,none⟩=some (.pointer (some ⟨E.b,0,none⟩)) from P1.out)
  have I5d:=Lib.hid (show w1.drew.cell? ⟨w.heap.size+1,5,none⟩=some (.int .i64 bk) from I1.out.2.2.2.2.2.1)
  obtain⟨d0,d1,d2,d3,d4,d5,d6⟩:=I1.out
  clear hb1 n0 n1 n2 n3 n4 n5 n6 hm0
  go_wp2_with fail
  have hS1:=Lib.hid (And.intro p0 d1)
  refine wp_region_held_drew (S:=fun w'=>w'.cell? ⟨w.heap.size,0,none⟩=some (.pointer (some ⟨E.b,0,none⟩))∧w'.cell? ⟨w.heap.size+1,1,none⟩=some (.int .i64 (k:Int))) (by kernel_rfl) (hS1.out) (fun hHeld=>?_)
  refine tq 0 rfl ?_
  refine tq 1 rfl ?_
  refine tq 2 rfl ?_
  refine tq 3 rfl ?_
  refine tq 4 rfl ?_
  refine tq 6 rfl ?_
  refine tq 7 rfl ?_
  refine tq 8 rfl ?_
  refine rd1 5 rfl (fun K hK=>?_)
  go_simp
  ((go_at_call 138;(with_reducible refine(HC.out _ M1.out.drew P1d.out I5d.out).mono ?_));rintro e w2 ⟨he,hb2⟩;have he':e= .returned (.int .u16 v):=he;subst he';have M2:=Lib.hid ((M1.out.drew.kept hb2).setR k hd v HVB.out);have G2:=Lib.hid (gb_set (gb_below (gb_drew GG.out) hb2) (7+k) (.int .u16 v));have K1:=Lib.hid (And.intro (cell_kept (w:=w1.drew) P1.out (gb_below (gb_refl _ (some E.b)) hb2) hne0) (cell_kept (w:=w1.drew) I1.out.2.1 (gb_below (gb_refl _ (some E.b)) hb2) hne1));have K2:=Lib.hid (And.intro (cell_set (i:=7+k) (v:= .int .u16 v) K1.out.1 hne0) (cell_set (i:=7+k) (v:= .int .u16 v) K1.out.2 hne1));have ck1:=(M1.out.drew.kept hb2).cR k hd;have cf1:=(M1.out.drew.kept hb2).frz;clear hb2 he)
  go_wp2_with fail
  refine hK.out _ _ (K1.out) (fun hHeld=>?_)
  clear hK K
  try simp only[lay]
  refine tq 9 rfl ?_
  refine rd1 10 rfl (fun K hK=>?_)
  go_simp
  refine hK.out _ _ (K2.out) (fun hHeld=>?_)
  clear hK K
  try simp only[lay]
  refine wpAnyH_done (by kernel_rfl) ?_ _
  go_wp2_with fail
  go_end0
  exact Post.okk rfl rfl M2.out G2.out
 | tr t i=>
  go_enter Tryz.func109,Tryz.ntmps109
  go_wp2_with fail
  refine HA.out.mono ?_
  rintro e w1 ⟨rfl,hb1⟩
  have M1:=Lib.hid (H.out.kept hb1)
  have GG:=Lib.hid (gb_below HG.out hb1)
  have I1:=Lib.hid (Bxi.kept HI.out (gb_below (gb_refl W (some E.b)) hb1) hne1)
  have P1:=Lib.hid (cell_kept HM0.out (gb_below (gb_refl W (some E.b)) hb1) hne0)
  have p0:=P1.out
  have P1d:=Lib.hid (show w1.drew.cell? ⟨w.heap.size,0,none⟩=some (.pointer (some ⟨E.b,0,none⟩)) from P1.out)
  have I5d:=Lib.hid (show w1.drew.cell? ⟨w.heap.size+1,5,none⟩=some (.int .i64 bk) from I1.out.2.2.2.2.2.1)
  obtain⟨d0,d1,d2,d3,d4,d5,d6⟩:=I1.out
  clear hb1 n0 n1 n2 n3 n4 n5 n6 hm0
  go_wp2_with fail
  have hS1:=Lib.hid (And.intro p0 d1)
  refine wp_region_held_drew (S:=fun w'=>w'.cell? ⟨w.heap.size,0,none⟩=some (.pointer (some ⟨E.b,0,none⟩))∧w'.cell? ⟨w.heap.size+1,1,none⟩=some (.int .i64 (k:Int))) (by kernel_rfl) (hS1.out) (fun hHeld=>?_)
  refine tq 0 rfl ?_
  refine tq 1 rfl ?_
  refine tq 2 rfl ?_
  refine tq 3 rfl ?_
  refine tq 4 rfl ?_
  refine tq 6 rfl ?_
  refine tq 7 rfl ?_
  refine tq 8 rfl ?_
  refine rd1 5 rfl (fun K hK=>?_)
  go_simp
  ((go_at_call 138;(with_reducible refine(HC.out _ M1.out.drew P1d.out I5d.out).mono ?_));rintro e w2 ⟨he,hb2⟩;have he':e= .panicked (trapE t i):=he;subst he';have M2:=Lib.hid (M1.out.drew.kept hb2);have G2:=Lib.hid (gb_below (gb_drew GG.out) hb2);clear hb2 he)
  go_wp2_with fail
  exact⟨rfl,Post.trr rfl rfl M2.out (Kp.refl S) G2.out⟩
theorem acs_147 (E:Env) (ov:Value) (S:Ms) (k:Nat) (s im ax bk sz:Int) (w:World) (h:Mc E ov S w) (hd:k < 8) (hi:InD ⟨147,k,s,im,ax,bk,sz⟩):
  Calls Tryz.prog 109 #[.pointer (some ⟨E.b,0,none⟩),.agg #[.int .i64 147,.int .i64 (k:Int),.int .i64 s,.int .u16 im,.int .u16 ax,.int .i64 bk,.int .i64 sz]] w fun e w'=>Post E ov S w ((byP (romB E.I bk) (romV E.I bk) (atP S ⟨147,k,s,im,ax,bk,sz⟩)).to (setR S k)) e w':=by
 have hlt:=h.lt
 have hne0:E.b≠w.heap.size:=by omega
 have hne1:E.b≠w.heap.size+1:=by omega
 have hk8:(k:Int) < 8:=by omega
 have H0:=h.alloc (.cells #[.pointer (some ⟨E.b,0,none⟩)] 87)
 have HI0:=ins_new (w.alloc (.cells #[.pointer (some ⟨E.b,0,none⟩)] 87)) 147 k s im ax bk sz
 rw[show(w.alloc (.cells #[.pointer (some ⟨E.b,0,none⟩)] 87)).heap.size=w.heap.size+1 by simp] at HI0
 have hm0:=block_cells (heap_old _ (.cells #[.int .i64 147,.int .i64 (k:Int),.int .i64 s,.int .u16 im,.int .u16 ax,.int .i64 bk,.int .i64 sz] 58) _ (heap_alloc_new w (.cells #[.pointer (some ⟨E.b,0,none⟩)] 87))) 0 (.pointer (some ⟨E.b,0,none⟩)) rfl
 have H1:=H0.alloc (.cells #[.int .i64 147,.int .i64 (k:Int),.int .i64 s,.int .u16 im,.int .u16 ax,.int .i64 bk,.int .i64 sz] 58)
 have G1:=gb_alloc (gb_alloc (gb_refl w (some E.b)) (.cells #[.pointer (some ⟨E.b,0,none⟩)] 87)) (.cells #[.int .i64 147,.int .i64 (k:Int),.int .i64 s,.int .u16 im,.int .u16 ax,.int .i64 bk,.int .i64 sz] 58)
 obtain⟨W,hW⟩:∃ W,((w.alloc (.cells #[.pointer (some ⟨E.b,0,none⟩)] 87)).alloc (.cells #[.int .i64 147,.int .i64 (k:Int),.int .i64 s,.int .u16 im,.int .u16 ax,.int .i64 bk,.int .i64 sz] 58))=W:=⟨_,rfl⟩
 have hsz:w.heap.size+1 < W.heap.size:=by rw[← hW];simp
 rw[hW] at HI0 hm0 H1 G1
 have HI:=Lib.hid HI0
 have HM0:=Lib.hid hm0
 have H:=Lib.hid H1
 have HG:=Lib.hid G1
 have HA:=Lib.hid (accessed_any E ov S ⟨147,k,s,im,ax,bk,sz⟩ W H1 hi)
 have HU:=Lib.hid (atP_bd S hi)
 have HOK:=Lib.hid h.ok
 have HB:=Lib.hid (And.intro hi.b0 hi.b1)
 have HX:=Lib.hid (show U16 ax from⟨hi.ok.a0,hi.ok.a1⟩)
 obtain⟨a,ha⟩:∃ a,atP S ⟨147,k,s,im,ax,bk,sz⟩=a:=⟨_,rfl⟩
 rw[ha] at HA HU ⊢
 obtain⟨n0,n1,n2,n3,n4,n5,n6⟩:=HI0
 have hmf:∀ (fn:Fn) (first cap:Array Value) (w:World),(Instr.makeFunc fn first cap).run Tryz.prog w= .ok (.func fn first cap) w:=fun _ _ _ _=>rfl
 clear ha h H0 H1 G1 hi
 have HC:=Lib.hid (fun W' (hw:Mc E ov S W')=>(constant_any E ov S bk a W' hw HB.out.1 HB.out.2 HU.out.1 HU.out.2).mono fun e w' h=>(⟨h.1,h.2▸Below.refl _ _⟩:PV (romB E.I bk a) (romV E.I bk a) a e∧Below W'.heap.size W' w'))
 have HE:=Lib.hid (show byP (romB E.I bk) (romV E.I bk) a=if romB E.I bk a=true then .ok (romV E.I bk a) else .tr 2 a from rfl)
 have HVB0:=Lib.hid (fun (hr:romB E.I bk a=true)=>romV_bd E.I bk a)
 obtain⟨r,hr⟩:∃ r,romB E.I bk a=r:=⟨_,rfl⟩
 obtain⟨v,hv⟩:∃ v,romV E.I bk a=v:=⟨_,rfl⟩
 rw[hr,hv] at HC HE HVB0
 obtain⟨V,hV⟩:∃ V,byP (romB E.I bk) (romV E.I bk) a=V:=⟨_,rfl⟩
 rw[hV] at HE ⊢
 clear hr hv hV
 cases r with
 | true=>
  have HE1:=HE.out.trans (if_pos rfl)
  subst HE1
  have hvb:=HVB0.out rfl
  have HVB:=Lib.hid (show U16 v from⟨hvb.1,by omega⟩)
  have hv0:=hvb.1
  have hv1:=hvb.2
  have hwv:IntKind.u16.wrap v=v:=by rw[IntKind.wrap_u16];omega
  clear hvb
  go_enter Tryz.func109,Tryz.ntmps109
  go_wp2_with fail
  refine HA.out.mono ?_
  rintro e w1 ⟨rfl,hb1⟩
  have M1:=Lib.hid (H.out.kept hb1)
  have GG:=Lib.hid (gb_below HG.out hb1)
  have I1:=Lib.hid (Bxi.kept HI.out (gb_below (gb_refl W (some E.b)) hb1) hne1)
  have P1:=Lib.hid (cell_kept HM0.out (gb_below (gb_refl W (some E.b)) hb1) hne0)
  have p0:=P1.out
  have P1d:=Lib.hid (show w1.drew.cell? ⟨w.heap.size,0,none⟩=some (.pointer (some ⟨E.b,0,none⟩)) from P1.out)
  have I5d:=Lib.hid (show w1.drew.cell? ⟨w.heap.size+1,5,none⟩=some (.int .i64 bk) from I1.out.2.2.2.2.2.1)
  obtain⟨d0,d1,d2,d3,d4,d5,d6⟩:=I1.out
  clear hb1 n0 n1 n2 n3 n4 n5 n6 hm0
  go_wp2_with fail
  have hS1:=Lib.hid (And.intro p0 (And.intro d1 d5))
  refine wp_region_held_drew (S:=fun w'=>w'.cell? ⟨w.heap.size,0,none⟩=some (.pointer (some ⟨E.b,0,none⟩))∧w'.cell? ⟨w.heap.size+1,1,none⟩=some (.int .i64 (k:Int))∧w'.cell? ⟨w.heap.size+1,5,none⟩=some (.int .i64 bk)) (by kernel_rfl) (hS1.out) (fun hHeld=>?_)
  refine tq 0 rfl ?_
  refine tq 1 rfl ?_
  refine tq 2 rfl ?_
  refine tq 3 rfl ?_
  refine tq 4 rfl ?_
  refine tq 5 rfl ?_
  refine tq 6 rfl ?_
  refine tq 9 rfl ?_
  refine tq 10 rfl ?_
  refine tq 11 rfl ?_
  refine rd1 7 rfl (fun K hK=>?_)
  go_simp
  ((go_at_call 143;(with_reducible refine(HC.out _ M1.out.drew).mono ?_));rintro e w2 ⟨he,hb2⟩;obtain rfl:=PV.yes rfl he;have M2:=Lib.hid ((M1.out.drew.kept hb2).setR k hd v HVB.out);have G2:=Lib.hid (gb_set (gb_below (gb_drew GG.out) hb2) (7+k) (.int .u16 v));have K1:=Lib.hid (And.intro (cell_kept (w:=w1.drew) P1.out (gb_below (gb_refl _ (some E.b)) hb2) hne0) (And.intro (cell_kept (w:=w1.drew) I1.out.2.1 (gb_below (gb_refl _ (some E.b)) hb2) hne1) (cell_kept (w:=w1.drew) I1.out.2.2.2.2.2.1 (gb_below (gb_refl _ (some E.b)) hb2) hne1)));have K2:=Lib.hid (And.intro (cell_set (i:=7+k) (v:= .int .u16 v) K1.out.1 hne0) (And.intro (cell_set (i:=7+k) (v:= .int .u16 v) K1.out.2.1 hne1) (cell_set (i:=7+k) (v:= .int .u16 v) K1.out.2.2 hne1)));have ck1:=(M1.out.drew.kept hb2).cR k hd;have cf1:=(M1.out.drew.kept hb2).frz;clear hb2 he)
  go_wp2_with fail
  refine hK.out _ _ (K1.out) (fun hHeld=>?_)
  clear hK K
  try simp only[lay]
  refine tq 8 rfl ?_
  refine tq 12 rfl ?_
  refine rd1 13 rfl (fun K hK=>?_)
  go_simp
  refine hK.out _ _ (K2.out) (fun hHeld=>?_)
  clear hK K
  try simp only[lay]
  refine wpAnyH_done (by kernel_rfl) ?_ _
  go_wp2_with fail
  go_end0
  exact Post.okk rfl rfl M2.out G2.out
 | false=>
  have HE1:=HE.out.trans (if_neg (by decide))
  subst HE1
  go_enter Tryz.func109,Tryz.ntmps109
  go_wp2_with fail
  refine HA.out.mono ?_
  rintro e w1 ⟨rfl,hb1⟩
  have M1:=Lib.hid (H.out.kept hb1)
  have GG:=Lib.hid (gb_below HG.out hb1)
  have I1:=Lib.hid (Bxi.kept HI.out (gb_below (gb_refl W (some E.b)) hb1) hne1)
  have P1:=Lib.hid (cell_kept HM0.out (gb_below (gb_refl W (some E.b)) hb1) hne0)
  have p0:=P1.out
  have P1d:=Lib.hid (show w1.drew.cell? ⟨w.heap.size,0,none⟩=some (.pointer (some ⟨E.b,0,none⟩)) from P1.out)
  have I5d:=Lib.hid (show w1.drew.cell? ⟨w.heap.size+1,5,none⟩=some (.int .i64 bk) from I1.out.2.2.2.2.2.1)
  obtain⟨d0,d1,d2,d3,d4,d5,d6⟩:=I1.out
  clear hb1 n0 n1 n2 n3 n4 n5 n6 hm0
  go_wp2_with fail
  have hS1:=Lib.hid (And.intro p0 (And.intro d1 d5))
  refine wp_region_held_drew (S:=fun w'=>w'.cell? ⟨w.heap.size,0,none⟩=some (.pointer (some ⟨E.b,0,none⟩))∧w'.cell? ⟨w.heap.size+1,1,none⟩=some (.int .i64 (k:Int))∧w'.cell? ⟨w.heap.size+1,5,none⟩=some (.int .i64 bk)) (by kernel_rfl) (hS1.out) (fun hHeld=>?_)
  refine tq 0 rfl ?_
  refine tq 1 rfl ?_
  refine tq 2 rfl ?_
  refine tq 3 rfl ?_
  refine tq 4 rfl ?_
  refine tq 5 rfl ?_
  refine tq 6 rfl ?_
  refine tq 9 rfl ?_
  refine tq 10 rfl ?_
  refine tq 11 rfl ?_
  refine rd1 7 rfl (fun K hK=>?_)
  go_simp
  ((go_at_call 143;(with_reducible refine(HC.out _ M1.out.drew).mono ?_));rintro e w2 ⟨he,hb2⟩;obtain rfl:=PV.no rfl he;have M2:=Lib.hid (M1.out.drew.kept hb2);have G2:=Lib.hid (gb_below (gb_drew GG.out) hb2);clear hb2 he)
  go_wp2_with fail
  exact⟨rfl,Post.trr rfl rfl M2.out (Kp.refl S) G2.out⟩
theorem stB_r {S S':Ms} {a v:Int} (h:stB S a v= .ok S'):S'.r=S.r:=by
 unfold stB at h
 split at h
 ·injection h with h;subst h;rfl
 ·cases h
theorem storeByte_is (E:Env) (ov:Value) (S:Ms) (a v:Int) (w:World) (h:Mc E ov S w) (v0:0≤v) (v1:v < 256):
  Calls Tryz.prog 141 #[.pointer (some ⟨E.b,0,none⟩),.int .u16 a,.int .u8 v] w fun e w'=>Post E ov S w (stB S a v) e w':=by
 by_cases q:ramB a=true
 ·exact(storeByte_ok E ov S a v w h q v0 v1).mono fun e w' h2=>Post.okk (if_pos q) h2.1 h2.2.1 h2.2.2
 ·exact(storeByte_no E a v w (by simpa using q)).mono fun e w' h2=>Post.trr (if_neg q) h2.1 (h2.2▸h) (Kp.refl S) (h2.2▸gb_refl _ _)
theorem acs_st (op:Int) (ho:op=82∨op=86∨op=90) (E:Env) (ov:Value) (S:Ms) (k:Nat) (s im ax bk sz:Int) (w:World) (h:Mc E ov S w) (hd:k < 8) (hi:InD ⟨op,k,s,im,ax,bk,sz⟩):
  Calls Tryz.prog 109 #[.pointer (some ⟨E.b,0,none⟩),.agg #[.int .i64 op,.int .i64 (k:Int),.int .i64 s,.int .u16 im,.int .u16 ax,.int .i64 bk,.int .i64 sz]] w fun e w'=>Post E ov S w (stW S (atP S ⟨op,k,s,im,ax,bk,sz⟩) (S.r k)) e w':=by
 have hlt:=h.lt
 have hne0:E.b≠w.heap.size:=by omega
 have hne1:E.b≠w.heap.size+1:=by omega
 have hk8:(k:Int) < 8:=by omega
 have H0:=h.alloc (.cells #[.pointer (some ⟨E.b,0,none⟩)] 87)
 have HI0:=ins_new (w.alloc (.cells #[.pointer (some ⟨E.b,0,none⟩)] 87)) op k s im ax bk sz
 rw[show(w.alloc (.cells #[.pointer (some ⟨E.b,0,none⟩)] 87)).heap.size=w.heap.size+1 by simp] at HI0
 have hm0:=block_cells (heap_old _ (.cells #[.int .i64 op,.int .i64 (k:Int),.int .i64 s,.int .u16 im,.int .u16 ax,.int .i64 bk,.int .i64 sz] 58) _ (heap_alloc_new w (.cells #[.pointer (some ⟨E.b,0,none⟩)] 87))) 0 (.pointer (some ⟨E.b,0,none⟩)) rfl
 have H1:=H0.alloc (.cells #[.int .i64 op,.int .i64 (k:Int),.int .i64 s,.int .u16 im,.int .u16 ax,.int .i64 bk,.int .i64 sz] 58)
 have G1:=gb_alloc (gb_alloc (gb_refl w (some E.b)) (.cells #[.pointer (some ⟨E.b,0,none⟩)] 87)) (.cells #[.int .i64 op,.int .i64 (k:Int),.int .i64 s,.int .u16 im,.int .u16 ax,.int .i64 bk,.int .i64 sz] 58)
 obtain⟨W,hW⟩:∃ W,((w.alloc (.cells #[.pointer (some ⟨E.b,0,none⟩)] 87)).alloc (.cells #[.int .i64 op,.int .i64 (k:Int),.int .i64 s,.int .u16 im,.int .u16 ax,.int .i64 bk,.int .i64 sz] 58))=W:=⟨_,rfl⟩
 have hsz:w.heap.size+1 < W.heap.size:=by rw[← hW];simp
 rw[hW] at HI0 hm0 H1 G1
 have HI:=Lib.hid HI0
 have HM0:=Lib.hid hm0
 have H:=Lib.hid H1
 have HG:=Lib.hid G1
 have HA:=Lib.hid (accessed_any E ov S ⟨op,k,s,im,ax,bk,sz⟩ W H1 hi)
 have HU:=Lib.hid (atP_bd S hi)
 have HOK:=Lib.hid h.ok
 have HB:=Lib.hid (And.intro hi.b0 hi.b1)
 have HX:=Lib.hid (show U16 ax from⟨hi.ok.a0,hi.ok.a1⟩)
 obtain⟨a,ha⟩:∃ a,atP S ⟨op,k,s,im,ax,bk,sz⟩=a:=⟨_,rfl⟩
 rw[ha] at HA HU ⊢
 obtain⟨n0,n1,n2,n3,n4,n5,n6⟩:=HI0
 have hmf:∀ (fn:Fn) (first cap:Array Value) (w:World),(Instr.makeFunc fn first cap).run Tryz.prog w= .ok (.func fn first cap) w:=fun _ _ _ _=>rfl
 clear ha h H0 H1 G1 hi
 obtain⟨x,hx⟩:∃ x,S.r k=x:=⟨_,rfl⟩
 have HXb:=Lib.hid (hx▸HOK.out.r k hd)
 have hx0:=HXb.out.1
 have hx1:=HXb.out.2
 have HXe:=Lib.hid hx
 have hwx:IntKind.u8.wrap x=x%256:=IntKind.wrap_u8 x
 rw[hx]
 have HC:=Lib.hid (fun W' (hw:Mc E ov S W')=>storeWord_any E ov S a x W' hw HU.out HXb.out)
 obtain⟨r,hr⟩:∃ r,stW S a x=r:=⟨_,rfl⟩
 have HRr:=Lib.hid (fun (S':Ms) (hh:r= .ok S')=>(stW_r (hr.trans hh)))
 rw[hr] at HC ⊢
 clear hr hx
 cases r with
 | ok S'=>
  have HRr':=Lib.hid (HRr.out S' rfl)
  rcases ho with rfl | rfl | rfl
  all_goals
   go_enter Tryz.func109,Tryz.ntmps109
   go_wp2_with fail
   refine HA.out.mono ?_
   rintro e w1 ⟨rfl,hb1⟩
   have M1:=Lib.hid (H.out.kept hb1)
   have GG:=Lib.hid (gb_below HG.out hb1)
   have I1:=Lib.hid (Bxi.kept HI.out (gb_below (gb_refl W (some E.b)) hb1) hne1)
   have P1:=Lib.hid (cell_kept HM0.out (gb_below (gb_refl W (some E.b)) hb1) hne0)
   have p0:=P1.out
   have P1d:=Lib.hid (show w1.drew.cell? ⟨w.heap.size,0,none⟩=some (.pointer (some ⟨E.b,0,none⟩)) from P1.out)
   have I5d:=Lib.hid (show w1.drew.cell? ⟨w.heap.size+1,5,none⟩=some (.int .i64 bk) from I1.out.2.2.2.2.2.1)
   obtain⟨d0,d1,d2,d3,d4,d5,d6⟩:=I1.out
   clear hb1 n0 n1 n2 n3 n4 n5 n6 hm0
   go_wp2_with fail
   have hS1:=Lib.hid (show(fun w'=>w'.cell? ⟨w.heap.size,0,none⟩=some (.pointer (some ⟨E.b,0,none⟩))∧w'.cell? ⟨w.heap.size+1,1,none⟩=some (.int .i64 (k:Int))∧w'.cell? ⟨E.b,7+k,none⟩=some (.int .u16 x)) w1.drew from⟨p0,d1,HXe.out▸M1.out.drew.cR k hd⟩)
   refine wp_region_held_drew (S:=fun w'=>w'.cell? ⟨w.heap.size,0,none⟩=some (.pointer (some ⟨E.b,0,none⟩))∧w'.cell? ⟨w.heap.size+1,1,none⟩=some (.int .i64 (k:Int))∧w'.cell? ⟨E.b,7+k,none⟩=some (.int .u16 x)) (by kernel_rfl) (hS1.out) (fun hHeld=>?_)
   refine tq 0 rfl ?_
   refine tq 1 rfl ?_
   refine tq 2 rfl ?_
   refine tq 3 rfl ?_
   refine tq 4 rfl ?_
   refine tq 5 rfl ?_
   refine tq 6 rfl ?_
   refine tq 7 rfl ?_
   refine tq 8 rfl ?_
   refine tq 9 rfl ?_
   refine rd1 10 rfl (fun K hK=>?_)
   go_simp
   ((go_at_call 140;(with_reducible refine(HC.out _ M1.out.drew).mono ?_));rintro e w2 ⟨rfl,hm2,hg2⟩;have M2:=Lib.hid hm2;have G2:=Lib.hid (gb_trans (gb_drew GG.out) hg2);have K1:=Lib.hid (And.intro (cell_kept (w:=w1.drew) P1.out hg2 hne0) (And.intro (cell_kept (w:=w1.drew) I1.out.2.1 hg2 hne1) (show w2.cell? ⟨E.b,7+k,none⟩=some (.int .u16 x) from HXe.out▸HRr'.out▸hm2.cR k hd)));clear hm2 hg2)
   go_wp2_with fail
   refine hK.out _ _ (K1.out) (fun hHeld=>?_)
   clear hK K
   try simp only[lay]
   refine wpAnyH_done (by kernel_rfl) ?_ _
   go_wp2_with fail
   go_end0
   exact Post.okk rfl rfl M2.out G2.out
 | tr t i=>
  rcases ho with rfl | rfl | rfl
  all_goals
   go_enter Tryz.func109,Tryz.ntmps109
   go_wp2_with fail
   refine HA.out.mono ?_
   rintro e w1 ⟨rfl,hb1⟩
   have M1:=Lib.hid (H.out.kept hb1)
   have GG:=Lib.hid (gb_below HG.out hb1)
   have I1:=Lib.hid (Bxi.kept HI.out (gb_below (gb_refl W (some E.b)) hb1) hne1)
   have P1:=Lib.hid (cell_kept HM0.out (gb_below (gb_refl W (some E.b)) hb1) hne0)
   have p0:=P1.out
   have P1d:=Lib.hid (show w1.drew.cell? ⟨w.heap.size,0,none⟩=some (.pointer (some ⟨E.b,0,none⟩)) from P1.out)
   have I5d:=Lib.hid (show w1.drew.cell? ⟨w.heap.size+1,5,none⟩=some (.int .i64 bk) from I1.out.2.2.2.2.2.1)
   obtain⟨d0,d1,d2,d3,d4,d5,d6⟩:=I1.out
   clear hb1 n0 n1 n2 n3 n4 n5 n6 hm0
   go_wp2_with fail
   have hS1:=Lib.hid (show(fun w'=>w'.cell? ⟨w.heap.size,0,none⟩=some (.pointer (some ⟨E.b,0,none⟩))∧w'.cell? ⟨w.heap.size+1,1,none⟩=some (.int .i64 (k:Int))∧w'.cell? ⟨E.b,7+k,none⟩=some (.int .u16 x)) w1.drew from⟨p0,d1,HXe.out▸M1.out.drew.cR k hd⟩)
   refine wp_region_held_drew (S:=fun w'=>w'.cell? ⟨w.heap.size,0,none⟩=some (.pointer (some ⟨E.b,0,none⟩))∧w'.cell? ⟨w.heap.size+1,1,none⟩=some (.int .i64 (k:Int))∧w'.cell? ⟨E.b,7+k,none⟩=some (.int .u16 x)) (by kernel_rfl) (hS1.out) (fun hHeld=>?_)
   refine tq 0 rfl ?_
   refine tq 1 rfl ?_
   refine tq 2 rfl ?_
   refine tq 3 rfl ?_
   refine tq 4 rfl ?_
   refine tq 5 rfl ?_
   refine tq 6 rfl ?_
   refine tq 7 rfl ?_
   refine tq 8 rfl ?_
   refine tq 9 rfl ?_
   refine rd1 10 rfl (fun K hK=>?_)
   go_simp
   ((go_at_call 140;(with_reducible refine(HC.out _ M1.out.drew).mono ?_));rintro e w2 ⟨rfl,S',hm2,hk2,hg2⟩;have M2:=Lib.hid hm2;have KK:=Lib.hid hk2;have G2:=Lib.hid (gb_trans (gb_drew GG.out) hg2);clear hm2 hg2 hk2)
   go_wp2_with fail
   exact⟨rfl,Post.trr rfl rfl M2.out KK.out G2.out⟩
theorem acs_sb (op:Int) (ho:op=83∨op=87∨op=91) (E:Env) (ov:Value) (S:Ms) (k:Nat) (s im ax bk sz:Int) (w:World) (h:Mc E ov S w) (hd:k < 8) (hi:InD ⟨op,k,s,im,ax,bk,sz⟩):
  Calls Tryz.prog 109 #[.pointer (some ⟨E.b,0,none⟩),.agg #[.int .i64 op,.int .i64 (k:Int),.int .i64 s,.int .u16 im,.int .u16 ax,.int .i64 bk,.int .i64 sz]] w fun e w'=>Post E ov S w (stB S (atP S ⟨op,k,s,im,ax,bk,sz⟩) (S.r k%256)) e w':=by
 have hlt:=h.lt
 have hne0:E.b≠w.heap.size:=by omega
 have hne1:E.b≠w.heap.size+1:=by omega
 have hk8:(k:Int) < 8:=by omega
 have H0:=h.alloc (.cells #[.pointer (some ⟨E.b,0,none⟩)] 87)
 have HI0:=ins_new (w.alloc (.cells #[.pointer (some ⟨E.b,0,none⟩)] 87)) op k s im ax bk sz
 rw[show(w.alloc (.cells #[.pointer (some ⟨E.b,0,none⟩)] 87)).heap.size=w.heap.size+1 by simp] at HI0
 have hm0:=block_cells (heap_old _ (.cells #[.int .i64 op,.int .i64 (k:Int),.int .i64 s,.int .u16 im,.int .u16 ax,.int .i64 bk,.int .i64 sz] 58) _ (heap_alloc_new w (.cells #[.pointer (some ⟨E.b,0,none⟩)] 87))) 0 (.pointer (some ⟨E.b,0,none⟩)) rfl
 have H1:=H0.alloc (.cells #[.int .i64 op,.int .i64 (k:Int),.int .i64 s,.int .u16 im,.int .u16 ax,.int .i64 bk,.int .i64 sz] 58)
 have G1:=gb_alloc (gb_alloc (gb_refl w (some E.b)) (.cells #[.pointer (some ⟨E.b,0,none⟩)] 87)) (.cells #[.int .i64 op,.int .i64 (k:Int),.int .i64 s,.int .u16 im,.int .u16 ax,.int .i64 bk,.int .i64 sz] 58)
 obtain⟨W,hW⟩:∃ W,((w.alloc (.cells #[.pointer (some ⟨E.b,0,none⟩)] 87)).alloc (.cells #[.int .i64 op,.int .i64 (k:Int),.int .i64 s,.int .u16 im,.int .u16 ax,.int .i64 bk,.int .i64 sz] 58))=W:=⟨_,rfl⟩
 have hsz:w.heap.size+1 < W.heap.size:=by rw[← hW];simp
 rw[hW] at HI0 hm0 H1 G1
 have HI:=Lib.hid HI0
 have HM0:=Lib.hid hm0
 have H:=Lib.hid H1
 have HG:=Lib.hid G1
 have HA:=Lib.hid (accessed_any E ov S ⟨op,k,s,im,ax,bk,sz⟩ W H1 hi)
 have HU:=Lib.hid (atP_bd S hi)
 have HOK:=Lib.hid h.ok
 have HB:=Lib.hid (And.intro hi.b0 hi.b1)
 have HX:=Lib.hid (show U16 ax from⟨hi.ok.a0,hi.ok.a1⟩)
 obtain⟨a,ha⟩:∃ a,atP S ⟨op,k,s,im,ax,bk,sz⟩=a:=⟨_,rfl⟩
 rw[ha] at HA HU ⊢
 obtain⟨n0,n1,n2,n3,n4,n5,n6⟩:=HI0
 have hmf:∀ (fn:Fn) (first cap:Array Value) (w:World),(Instr.makeFunc fn first cap).run Tryz.prog w= .ok (.func fn first cap) w:=fun _ _ _ _=>rfl
 clear ha h H0 H1 G1 hi
 obtain⟨x,hx⟩:∃ x,S.r k=x:=⟨_,rfl⟩
 have HXb:=Lib.hid (hx▸HOK.out.r k hd)
 have hx0:=HXb.out.1
 have hx1:=HXb.out.2
 have HXe:=Lib.hid hx
 have hwx:IntKind.u8.wrap x=x%256:=IntKind.wrap_u8 x
 rw[hx]
 have HC:=Lib.hid (fun W' (hw:Mc E ov S W')=>storeByte_is E ov S a (x%256) W' hw (by omega) (by omega))
 obtain⟨r,hr⟩:∃ r,stB S a (x%256)=r:=⟨_,rfl⟩
 have HRr:=Lib.hid (fun (S':Ms) (hh:r= .ok S')=>(stB_r (hr.trans hh)))
 rw[hr] at HC ⊢
 clear hr hx
 cases r with
 | ok S'=>
  have HRr':=Lib.hid (HRr.out S' rfl)
  rcases ho with rfl | rfl | rfl
  all_goals
   go_enter Tryz.func109,Tryz.ntmps109
   go_wp2_with fail
   refine HA.out.mono ?_
   rintro e w1 ⟨rfl,hb1⟩
   have M1:=Lib.hid (H.out.kept hb1)
   have GG:=Lib.hid (gb_below HG.out hb1)
   have I1:=Lib.hid (Bxi.kept HI.out (gb_below (gb_refl W (some E.b)) hb1) hne1)
   have P1:=Lib.hid (cell_kept HM0.out (gb_below (gb_refl W (some E.b)) hb1) hne0)
   have p0:=P1.out
   have P1d:=Lib.hid (show w1.drew.cell? ⟨w.heap.size,0,none⟩=some (.pointer (some ⟨E.b,0,none⟩)) from P1.out)
   have I5d:=Lib.hid (show w1.drew.cell? ⟨w.heap.size+1,5,none⟩=some (.int .i64 bk) from I1.out.2.2.2.2.2.1)
   obtain⟨d0,d1,d2,d3,d4,d5,d6⟩:=I1.out
   clear hb1 n0 n1 n2 n3 n4 n5 n6 hm0
   go_wp2_with fail
   have hS1:=Lib.hid (show(fun w'=>w'.cell? ⟨w.heap.size,0,none⟩=some (.pointer (some ⟨E.b,0,none⟩))∧w'.cell? ⟨w.heap.size+1,1,none⟩=some (.int .i64 (k:Int))∧w'.cell? ⟨E.b,7+k,none⟩=some (.int .u16 x)) w1.drew from⟨p0,d1,HXe.out▸M1.out.drew.cR k hd⟩)
   refine wp_region_held_drew (S:=fun w'=>w'.cell? ⟨w.heap.size,0,none⟩=some (.pointer (some ⟨E.b,0,none⟩))∧w'.cell? ⟨w.heap.size+1,1,none⟩=some (.int .i64 (k:Int))∧w'.cell? ⟨E.b,7+k,none⟩=some (.int .u16 x)) (by kernel_rfl) (hS1.out) (fun hHeld=>?_)
   refine tq 0 rfl ?_
   refine tq 1 rfl ?_
   refine tq 2 rfl ?_
   refine tq 3 rfl ?_
   refine tq 4 rfl ?_
   refine tq 5 rfl ?_
   refine tq 6 rfl ?_
   refine tq 7 rfl ?_
   refine tq 8 rfl ?_
   refine tq 9 rfl ?_
   refine tq 10 rfl ?_
   refine rd1 11 rfl (fun K hK=>?_)
   go_simp
   ((go_at_call 141;(with_reducible refine(HC.out _ M1.out.drew).mono ?_));rintro e w2 ⟨rfl,hm2,hg2⟩;have M2:=Lib.hid hm2;have G2:=Lib.hid (gb_trans (gb_drew GG.out) hg2);have K1:=Lib.hid (And.intro (cell_kept (w:=w1.drew) P1.out hg2 hne0) (And.intro (cell_kept (w:=w1.drew) I1.out.2.1 hg2 hne1) (show w2.cell? ⟨E.b,7+k,none⟩=some (.int .u16 x) from HXe.out▸HRr'.out▸hm2.cR k hd)));clear hm2 hg2)
   go_wp2_with fail
   refine hK.out _ _ (K1.out) (fun hHeld=>?_)
   clear hK K
   try simp only[lay]
   refine wpAnyH_done (by kernel_rfl) ?_ _
   go_wp2_with fail
   go_end0
   exact Post.okk rfl rfl M2.out G2.out
 | tr t i=>
  rcases ho with rfl | rfl | rfl
  all_goals
   go_enter Tryz.func109,Tryz.ntmps109
   go_wp2_with fail
   refine HA.out.mono ?_
   rintro e w1 ⟨rfl,hb1⟩
   have M1:=Lib.hid (H.out.kept hb1)
   have GG:=Lib.hid (gb_below HG.out hb1)
   have I1:=Lib.hid (Bxi.kept HI.out (gb_below (gb_refl W (some E.b)) hb1) hne1)
   have P1:=Lib.hid (cell_kept HM0.out (gb_below (gb_refl W (some E.b)) hb1) hne0)
   have p0:=P1.out
   have P1d:=Lib.hid (show w1.drew.cell? ⟨w.heap.size,0,none⟩=some (.pointer (some ⟨E.b,0,none⟩)) from P1.out)
   have I5d:=Lib.hid (show w1.drew.cell? ⟨w.heap.size+1,5,none⟩=some (.int .i64 bk) from I1.out.2.2.2.2.2.1)
   obtain⟨d0,d1,d2,d3,d4,d5,d6⟩:=I1.out
   clear hb1 n0 n1 n2 n3 n4 n5 n6 hm0
   go_wp2_with fail
   have hS1:=Lib.hid (show(fun w'=>w'.cell? ⟨w.heap.size,0,none⟩=some (.pointer (some ⟨E.b,0,none⟩))∧w'.cell? ⟨w.heap.size+1,1,none⟩=some (.int .i64 (k:Int))∧w'.cell? ⟨E.b,7+k,none⟩=some (.int .u16 x)) w1.drew from⟨p0,d1,HXe.out▸M1.out.drew.cR k hd⟩)
   refine wp_region_held_drew (S:=fun w'=>w'.cell? ⟨w.heap.size,0,none⟩=some (.pointer (some ⟨E.b,0,none⟩))∧w'.cell? ⟨w.heap.size+1,1,none⟩=some (.int .i64 (k:Int))∧w'.cell? ⟨E.b,7+k,none⟩=some (.int .u16 x)) (by kernel_rfl) (hS1.out) (fun hHeld=>?_)
   refine tq 0 rfl ?_
   refine tq 1 rfl ?_
   refine tq 2 rfl ?_
   refine tq 3 rfl ?_
   refine tq 4 rfl ?_
   refine tq 5 rfl ?_
   refine tq 6 rfl ?_
   refine tq 7 rfl ?_
   refine tq 8 rfl ?_
   refine tq 9 rfl ?_
   refine tq 10 rfl ?_
   refine rd1 11 rfl (fun K hK=>?_)
   go_simp
   ((go_at_call 141;(with_reducible refine(HC.out _ M1.out.drew).mono ?_));rintro e w2 ⟨rfl,S',hm2,hk2,hg2⟩;have M2:=Lib.hid hm2;have KK:=Lib.hid hk2;have G2:=Lib.hid (gb_trans (gb_drew GG.out) hg2);clear hm2 hg2 hk2)
   go_wp2_with fail
   exact⟨rfl,Post.trr rfl rfl M2.out KK.out G2.out⟩
theorem acs_150 (E:Env) (ov:Value) (S:Ms) (k:Nat) (s im ax bk sz:Int) (w:World) (h:Mc E ov S w) (hd:k < 8) (hi:InD ⟨150,k,s,im,ax,bk,sz⟩):
  Calls Tryz.prog 109 #[.pointer (some ⟨E.b,0,none⟩),.agg #[.int .i64 150,.int .i64 (k:Int),.int .i64 s,.int .u16 im,.int .u16 ax,.int .i64 bk,.int .i64 sz]] w fun e w'=>Post E ov S w (stW S (atP S ⟨150,k,s,im,ax,bk,sz⟩) ax) e w':=by
 have hlt:=h.lt
 have hne0:E.b≠w.heap.size:=by omega
 have hne1:E.b≠w.heap.size+1:=by omega
 have hk8:(k:Int) < 8:=by omega
 have H0:=h.alloc (.cells #[.pointer (some ⟨E.b,0,none⟩)] 87)
 have HI0:=ins_new (w.alloc (.cells #[.pointer (some ⟨E.b,0,none⟩)] 87)) 150 k s im ax bk sz
 rw[show(w.alloc (.cells #[.pointer (some ⟨E.b,0,none⟩)] 87)).heap.size=w.heap.size+1 by simp] at HI0
 have hm0:=block_cells (heap_old _ (.cells #[.int .i64 150,.int .i64 (k:Int),.int .i64 s,.int .u16 im,.int .u16 ax,.int .i64 bk,.int .i64 sz] 58) _ (heap_alloc_new w (.cells #[.pointer (some ⟨E.b,0,none⟩)] 87))) 0 (.pointer (some ⟨E.b,0,none⟩)) rfl
 have H1:=H0.alloc (.cells #[.int .i64 150,.int .i64 (k:Int),.int .i64 s,.int .u16 im,.int .u16 ax,.int .i64 bk,.int .i64 sz] 58)
 have G1:=gb_alloc (gb_alloc (gb_refl w (some E.b)) (.cells #[.pointer (some ⟨E.b,0,none⟩)] 87)) (.cells #[.int .i64 150,.int .i64 (k:Int),.int .i64 s,.int .u16 im,.int .u16 ax,.int .i64 bk,.int .i64 sz] 58)
 obtain⟨W,hW⟩:∃ W,((w.alloc (.cells #[.pointer (some ⟨E.b,0,none⟩)] 87)).alloc (.cells #[.int .i64 150,.int .i64 (k:Int),.int .i64 s,.int .u16 im,.int .u16 ax,.int .i64 bk,.int .i64 sz] 58))=W:=⟨_,rfl⟩
 have hsz:w.heap.size+1 < W.heap.size:=by rw[← hW];simp
 rw[hW] at HI0 hm0 H1 G1
 have HI:=Lib.hid HI0
 have HM0:=Lib.hid hm0
 have H:=Lib.hid H1
 have HG:=Lib.hid G1
 have HA:=Lib.hid (accessed_any E ov S ⟨150,k,s,im,ax,bk,sz⟩ W H1 hi)
 have HU:=Lib.hid (atP_bd S hi)
 have HOK:=Lib.hid h.ok
 have HB:=Lib.hid (And.intro hi.b0 hi.b1)
 have HX:=Lib.hid (show U16 ax from⟨hi.ok.a0,hi.ok.a1⟩)
 obtain⟨a,ha⟩:∃ a,atP S ⟨150,k,s,im,ax,bk,sz⟩=a:=⟨_,rfl⟩
 rw[ha] at HA HU ⊢
 obtain⟨n0,n1,n2,n3,n4,n5,n6⟩:=HI0
 have hmf:∀ (fn:Fn) (first cap:Array Value) (w:World),(Instr.makeFunc fn first cap).run Tryz.prog w= .ok (.func fn first cap) w:=fun _ _ _ _=>rfl
 clear ha h H0 H1 G1 hi
 have HC:=Lib.hid (fun W' (hw:Mc E ov S W')=>storeWord_any E ov S a ax W' hw HU.out HX.out)
 obtain⟨r,hr⟩:∃ r,stW S a ax=r:=⟨_,rfl⟩
 rw[hr] at HC ⊢
 clear hr
 go_enter Tryz.func109,Tryz.ntmps109
 go_wp2_with fail
 refine HA.out.mono ?_
 rintro e w1 ⟨rfl,hb1⟩
 have M1:=Lib.hid (H.out.kept hb1)
 have GG:=Lib.hid (gb_below HG.out hb1)
 have I1:=Lib.hid (Bxi.kept HI.out (gb_below (gb_refl W (some E.b)) hb1) hne1)
 have P1:=Lib.hid (cell_kept HM0.out (gb_below (gb_refl W (some E.b)) hb1) hne0)
 have p0:=P1.out
 have P1d:=Lib.hid (show w1.drew.cell? ⟨w.heap.size,0,none⟩=some (.pointer (some ⟨E.b,0,none⟩)) from P1.out)
 have I5d:=Lib.hid (show w1.drew.cell? ⟨w.heap.size+1,5,none⟩=some (.int .i64 bk) from I1.out.2.2.2.2.2.1)
 obtain⟨d0,d1,d2,d3,d4,d5,d6⟩:=I1.out
 clear hb1 n0 n1 n2 n3 n4 n5 n6 hm0
 go_wp2_with fail
 refine(HC.out _ M1.out).mono ?_
 rintro e w2 hp
 cases r with
 | ok S'=>
  obtain⟨rfl,hm2,hg2⟩:=hp
  have M2:=Lib.hid hm2
  have G2:=Lib.hid (gb_trans GG.out hg2)
  clear hm2 hg2
  go_wp2_with fail
  go_end0
  exact Post.okk rfl rfl M2.out G2.out
 | tr t i=>
  obtain⟨rfl,S',hm2,hk2,hg2⟩:=hp
  have M2:=Lib.hid hm2
  have KK:=Lib.hid hk2
  have G2:=Lib.hid (gb_trans GG.out hg2)
  clear hm2 hg2 hk2
  go_wp2_with fail
  exact⟨rfl,Post.trr rfl rfl M2.out KK.out G2.out⟩
end Go.Proofs.YthkcloapiefggaaGreatDoor
