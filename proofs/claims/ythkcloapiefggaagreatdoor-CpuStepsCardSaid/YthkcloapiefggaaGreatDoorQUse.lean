import Derived.Test.YthkcloapiefggaaGreatDoorQMem
namespace Go.Proofs.YthkcloapiefggaaGreatDoor
set_option linter.unusedVariables false
set_option linter.unusedSimpArgs false
set_option maxRecDepth 100000
set_option maxHeartbeats 1000000
open Go.ChangeShapes Go.WideShapes Go.RowKit
theorem cell_kept{w w':World}{n j b:Nat}{x:Value}(h:w.cell? ⟨n,j,none⟩=some x)(hg:w.grownBy w' (some b))(hne:b≠n):w'.cell? ⟨n,j,none⟩=some x:=hg.cell h (by simp;omega)
theorem bV{w:World}{n j b i:Nat}{x v:Value}(h:w.cell? ⟨n,j,none⟩=some x)(hne:b≠n):(w.setCell ⟨b,i,none⟩ v).cell? ⟨n,j,none⟩=some x:=cell_kept h (ag (ah _ _) _ _) hne
def Bxi(n:Nat)(op d s im ax bk sz:Int)(w:World):Prop:=w.cell? ⟨n,0,none⟩=some (.int .i64 op)∧w.cell? ⟨n,1,none⟩=some (.int .i64 d)∧w.cell? ⟨n,2,none⟩=some (.int .i64 s)∧w.cell? ⟨n,3,none⟩=some (.int .u16 im)
  ∧w.cell? ⟨n,4,none⟩=some (.int .u16 ax)∧w.cell? ⟨n,5,none⟩=some (.int .i64 bk)∧w.cell? ⟨n,6,none⟩=some (.int .i64 sz)
theorem Bxi.kept{n b:Nat}{op d s im ax bk sz:Int}{w w':World}(h:Bxi n op d s im ax bk sz w)(hg:w.grownBy w' (some b))(hne:b≠n):Bxi n op d s im ax bk sz w':=
 ⟨cell_kept h.1 hg hne,cell_kept h.2.1 hg hne,cell_kept h.2.2.1 hg hne,cell_kept h.2.2.2.1 hg hne,cell_kept h.2.2.2.2.1 hg hne,cell_kept h.2.2.2.2.2.1 hg hne,cell_kept h.2.2.2.2.2.2 hg hne⟩
theorem JL(S:Ms)(f:Ms):room S 1 f=if S.sp < 4096 then .ok f else .tr 5 0:=by unfold room;by_cases h:S.sp < 4096;rw[if_pos h,if_pos (by omega)];rw[if_neg h,if_neg (by omega)]
theorem Ih(E:Env)(ov:Value)(S:Ms)(k:Nat)(s im ax bk sz:Int)(w:World)(h:Mc E ov S w)(hd:k < 8)(hm:U16 im):
  Calls Tryz.prog 110 #[.pointer (some ⟨E.b,0,none⟩),.agg #[.int .i64 16,.int .i64 (k:Int),.int .i64 s,.int .u16 im,.int .u16 ax,.int .i64 bk,.int .i64 sz]] w fun e w'=>Post E ov S w (room S 1 (psh S (S.r k))) e w':=by
 have hlt:=h.lt;have hne:E.b≠w.heap.size:=by omega
 have HI:=Nc (aG w 16 (k:Int) s im ax bk sz);have H:=Nc (h.alloc (.cells #[.int .i64 16,.int .i64 (k:Int),.int .i64 s,.int .u16 im,.int .u16 ax,.int .i64 bk,.int .i64 sz] 58));have HG:=Nc (aJ (ah w (some E.b)) (.cells #[.int .i64 16,.int .i64 (k:Int),.int .i64 s,.int .u16 im,.int .u16 ax,.int .i64 bk,.int .i64 sz] 58));have HW:=Nc (show(w.alloc (.cells #[.int .i64 16,.int .i64 (k:Int),.int .i64 s,.int .u16 im,.int .u16 ax,.int .i64 bk,.int .i64 sz] 58)).heap.size=w.heap.size+1 by simp);have hk8:(k:Int) < 8:=by omega
 have hS1:=Nc (And.intro HI.out.2.1 (H.out.cR k hd));have hv:=Nc (h.ok.r k hd);obtain⟨v,hvv⟩:∃ v,S.r k=v:=⟨_,rfl⟩;rw[hvv] at hS1 hv⊢;obtain⟨n0,n1,n2,n3,n4,n5,n6⟩:=HI.out;have ck:=H.out.cR k hd;rw[hvv] at ck;have HV:=Nc hvv;have HR:=Nc (JL S (psh S v));obtain⟨r,hr⟩:∃ r,room S 1 (psh S v)=r:=⟨_,rfl⟩;rw[hr] at HR⊢;clear h hvv hr;by_cases s1:S.sp < 4096
 ·go_enter Tryz.func110,Tryz.ntmps110
  go_wp2_with fail
  refine wp_region_held_drew (S:=fun w'=>w'.cell? ⟨w.heap.size,1,none⟩=some (.int .i64 (k:Int))∧w'.cell? ⟨E.b,7+k,none⟩=some (.int .u16 v)) (by kernel_rfl) (hS1.out) (fun hHeld=>?_);refine tq 0 rfl ?_;refine tq 1 rfl ?_;refine tq 2 rfl ?_;refine tq 3 rfl ?_;refine tq 4 rfl ?_;refine tq 5 rfl ?_;refine tq 6 rfl ?_;refine tq 7 rfl ?_;refine tq 8 rfl ?_;refine rd1 9 rfl (fun K hK=>?_);go_simp
  ((go_at_call 79;(with_reducible refine(jc E ov S v _ H.out.drew hv.out s1).mono ?_));rintro e w1 ⟨rfl,hm1,hg1⟩;have HM1:=Nc hm1;have HG1:=Nc (aS (aO HG.out) hg1);have hk1:=Nc (And.intro (cell_kept (w:=(w.alloc (.cells #[.int .i64 16,.int .i64 (k:Int),.int .i64 s,.int .u16 im,.int .u16 ax,.int .i64 bk,.int .i64 sz] 58)).drew) HI.out.2.1 hg1 hne) (HV.out▸hm1.cR k hd));clear hm1 hg1)
  go_wp2_with fail
  refine hK.out _ _ (hk1.out) (fun hHeld=>?_);clear hK K
  try simp only[lay]
  refine wpAnyH_done (by kernel_rfl) ?_ _;go_wp2_with fail
  go_end0
  exact Post.okk (HR.out.trans (if_pos s1)) rfl HM1.out HG1.out
 ·go_enter Tryz.func110,Tryz.ntmps110
  go_wp2_with fail
  refine wp_region_held_drew (S:=fun w'=>w'.cell? ⟨w.heap.size,1,none⟩=some (.int .i64 (k:Int))∧w'.cell? ⟨E.b,7+k,none⟩=some (.int .u16 v)) (by kernel_rfl) (hS1.out) (fun hHeld=>?_);refine tq 0 rfl ?_;refine tq 1 rfl ?_;refine tq 2 rfl ?_;refine tq 3 rfl ?_;refine tq 4 rfl ?_;refine tq 5 rfl ?_;refine tq 6 rfl ?_;refine tq 7 rfl ?_;refine tq 8 rfl ?_;refine rd1 9 rfl (fun K hK=>?_);go_simp
  ((go_at_call 79;(with_reducible refine(jd E ov S v _ H.out.drew (by omega)).mono ?_));rintro e w1 ⟨rfl,rfl⟩)
  go_wp2_with fail
  exact⟨rfl,Post.trr (HR.out.trans (if_neg s1)) rfl H.out.drew (Kp.refl S) (aO HG.out)⟩
theorem Ig(E:Env)(ov:Value)(S:Ms)(k:Nat)(s im ax bk sz:Int)(w:World)(h:Mc E ov S w)(hd:k < 8)(hm:U16 im):
  Calls Tryz.prog 110 #[.pointer (some ⟨E.b,0,none⟩),.agg #[.int .i64 17,.int .i64 (k:Int),.int .i64 s,.int .u16 im,.int .u16 ax,.int .i64 bk,.int .i64 sz]] w fun e w'=>Post E ov S w (if 0 < S.sp then .ok (aZ {S with sp:=S.sp-1} k (S.stk (S.sp-1))) else .tr 5 0) e w':=by
 have hlt:=h.lt;have hne:E.b≠w.heap.size:=by omega
 have HI:=Nc (aG w 17 (k:Int) s im ax bk sz);have H:=Nc (h.alloc (.cells #[.int .i64 17,.int .i64 (k:Int),.int .i64 s,.int .u16 im,.int .u16 ax,.int .i64 bk,.int .i64 sz] 58));have HG:=Nc (aJ (ah w (some E.b)) (.cells #[.int .i64 17,.int .i64 (k:Int),.int .i64 s,.int .u16 im,.int .u16 ax,.int .i64 bk,.int .i64 sz] 58));have HW:=Nc (show(w.alloc (.cells #[.int .i64 17,.int .i64 (k:Int),.int .i64 s,.int .u16 im,.int .u16 ax,.int .i64 bk,.int .i64 sz] 58)).heap.size=w.heap.size+1 by simp);have hk8:(k:Int) < 8:=by omega
 have hS1:=Nc HI.out.2.1;obtain⟨n0,n1,n2,n3,n4,n5,n6⟩:=HI.out;have HST:=Nc h.ok;have HR:=Nc (show(if 0 < S.sp then Rs.ok (aZ {S with sp:=S.sp-1} k (S.stk (S.sp-1))) else .tr 5 0)=(if 0 < S.sp then Rs.ok {S with sp:=S.sp-1,r:=upd S.r k (S.stk (S.sp-1))} else .tr 5 0) from rfl);obtain⟨r,hr⟩:∃ r,(if 0 < S.sp then Rs.ok (aZ {S with sp:=S.sp-1} k (S.stk (S.sp-1))) else .tr 5 0)=r:=⟨_,rfl⟩;rw[hr] at HR⊢;clear h hr;by_cases s1:0 < S.sp
 ·have hv:=HST.out.stk (S.sp-1) (by have:=HST.out.sp;omega)
  have HV:=Nc hv;clear hv;go_enter Tryz.func110,Tryz.ntmps110
  go_wp2_with fail
  refine wp_region_held_drew (S:=fun w'=>w'.cell? ⟨w.heap.size,1,none⟩=some (.int .i64 (k:Int))) (by kernel_rfl) (hS1.out) (fun hHeld=>?_);refine tq 0 rfl ?_;refine tq 1 rfl ?_;refine tq 2 rfl ?_;refine tq 3 rfl ?_;refine tq 5 rfl ?_;refine tq 6 rfl ?_;refine tq 7 rfl ?_;refine rd1 4 rfl (fun K hK=>?_);go_simp
  ((go_at_call 144;(with_reducible refine(kw E ov S _ H.out.drew s1).mono ?_));rintro e w1 ⟨rfl,hm1,hg1⟩;have HM1:=Nc (hm1.aZ k hd _ HV.out);have HG1:=Nc (ag (aS (aO HG.out) hg1) (7+k) (.int .u16 (S.stk (S.sp-1))));have ck1:=hm1.cR k hd;have cf1:=hm1.frz;have hk1:=Nc (cell_kept (w:=(w.alloc (.cells #[.int .i64 17,.int .i64 (k:Int),.int .i64 s,.int .u16 im,.int .u16 ax,.int .i64 bk,.int .i64 sz] 58)).drew) HI.out.2.1 hg1 hne);have hk2:=Nc (bV (i:=7+k) (v:= .int .u16 (S.stk (S.sp-1))) hk1.out hne);clear hm1 hg1)
  go_wp2_with fail
  refine hK.out _ _ (hk1.out) (fun hHeld=>?_);clear hK K
  try simp only[lay]
  refine tq 8 rfl ?_;refine rd1 9 rfl (fun K hK=>?_);go_simp;refine hK.out _ _ (hk2.out) (fun hHeld=>?_);clear hK K
  try simp only[lay]
  refine wpAnyH_done (by kernel_rfl) ?_ _;go_wp2_with fail
  go_end0
  exact Post.okk (HR.out.trans (if_pos s1)) rfl HM1.out HG1.out
 ·go_enter Tryz.func110,Tryz.ntmps110
  go_wp2_with fail
  refine wp_region_held_drew (S:=fun w'=>w'.cell? ⟨w.heap.size,1,none⟩=some (.int .i64 (k:Int))) (by kernel_rfl) (hS1.out) (fun hHeld=>?_);refine tq 0 rfl ?_;refine tq 1 rfl ?_;refine tq 2 rfl ?_;refine tq 3 rfl ?_;refine tq 5 rfl ?_;refine tq 6 rfl ?_;refine tq 7 rfl ?_;refine rd1 4 rfl (fun K hK=>?_);go_simp
  ((go_at_call 144;(with_reducible refine(kz E ov S _ H.out.drew (by omega)).mono ?_));rintro e w1 ⟨rfl,rfl⟩)
  go_wp2_with fail
  exact⟨rfl,Post.trr (HR.out.trans (if_neg s1)) rfl H.out.drew (Kp.refl S) (aO HG.out)⟩
theorem Ie(E:Env)(ov:Value)(S:Ms)(k:Nat)(s im ax bk sz:Int)(w:World)(h:Mc E ov S w)(hd:k < 8)(hm:U16 im):
  Calls Tryz.prog 110 #[.pointer (some ⟨E.b,0,none⟩),.agg #[.int .i64 20,.int .i64 (k:Int),.int .i64 s,.int .u16 im,.int .u16 ax,.int .i64 bk,.int .i64 sz]] w fun e w'=>Post E ov S w (iG S im) e w':=by
 have hlt:=h.lt;have hne:E.b≠w.heap.size:=by omega
 have HI:=Nc (aG w 20 (k:Int) s im ax bk sz);have H:=Nc (h.alloc (.cells #[.int .i64 20,.int .i64 (k:Int),.int .i64 s,.int .u16 im,.int .u16 ax,.int .i64 bk,.int .i64 sz] 58));have HG:=Nc (aJ (ah w (some E.b)) (.cells #[.int .i64 20,.int .i64 (k:Int),.int .i64 s,.int .u16 im,.int .u16 ax,.int .i64 bk,.int .i64 sz] 58));have HW:=Nc (show(w.alloc (.cells #[.int .i64 20,.int .i64 (k:Int),.int .i64 s,.int .u16 im,.int .u16 ax,.int .i64 bk,.int .i64 sz] 58)).heap.size=w.heap.size+1 by simp);obtain⟨n0,n1,n2,n3,n4,n5,n6⟩:=HI.out;have HM:=Nc hm;obtain⟨r,hr⟩:∃ r,iG S im=r:=⟨_,rfl⟩;have HC:=Nc (rC E ov S im _ H.out hm);rw[hr] at HC⊢;clear h hr;go_enter Tryz.func110,Tryz.ntmps110
 go_wp2_with fail
 refine HC.out.mono ?_;rintro e w1 hp;cases r with
 | ok S'=>
  obtain⟨rfl,hm1,hg1⟩:=hp;have HM1:=Nc hm1;have HG1:=Nc (aS HG.out hg1);clear hm1 hg1;go_wp2_with fail
  go_end0
  exact Post.okk rfl rfl HM1.out HG1.out
 | tr t i=>
  obtain⟨rfl,S',hm1,hk1,hg1⟩:=hp;have HM1:=Nc hm1;have HK1:=Nc hk1;have HG1:=Nc (aS HG.out hg1);clear hm1 hg1 hk1;go_wp2_with fail
  exact⟨rfl,Post.trr rfl rfl HM1.out HK1.out HG1.out⟩
theorem JC(E:Env)(ov:Value)(S:Ms)(k:Nat)(s im ax bk sz:Int)(w:World)(h:Mc E ov S w)(hd:k < 8)(hm:U16 im):
  Calls Tryz.prog 110 #[.pointer (some ⟨E.b,0,none⟩),.agg #[.int .i64 5,.int .i64 (k:Int),.int .i64 s,.int .u16 im,.int .u16 ax,.int .i64 bk,.int .i64 sz]] w fun e w'=>Post E ov S w (iE S) e w':=by
 have hlt:=h.lt;have hne:E.b≠w.heap.size:=by omega
 have HI:=Nc (aG w 5 (k:Int) s im ax bk sz);have H:=Nc (h.alloc (.cells #[.int .i64 5,.int .i64 (k:Int),.int .i64 s,.int .u16 im,.int .u16 ax,.int .i64 bk,.int .i64 sz] 58));have HG:=Nc (aJ (ah w (some E.b)) (.cells #[.int .i64 5,.int .i64 (k:Int),.int .i64 s,.int .u16 im,.int .u16 ax,.int .i64 bk,.int .i64 sz] 58));have HW:=Nc (show(w.alloc (.cells #[.int .i64 5,.int .i64 (k:Int),.int .i64 s,.int .u16 im,.int .u16 ax,.int .i64 bk,.int .i64 sz] 58)).heap.size=w.heap.size+1 by simp);obtain⟨n0,n1,n2,n3,n4,n5,n6⟩:=HI.out;have HM:=Nc hm;obtain⟨r,hr⟩:∃ r,iE S=r:=⟨_,rfl⟩;have HC:=Nc (qQ E ov S _ H.out);rw[hr] at HC⊢;clear h hr;go_enter Tryz.func110,Tryz.ntmps110
 go_wp2_with fail
 refine HC.out.mono ?_;rintro e w1 hp;cases r with
 | ok S'=>
  obtain⟨rfl,hm1,hg1⟩:=hp;have HM1:=Nc hm1;have HG1:=Nc (aS HG.out hg1);clear hm1 hg1;go_wp2_with fail
  go_end0
  exact Post.okk rfl rfl HM1.out HG1.out
 | tr t i=>
  obtain⟨rfl,S',hm1,hk1,hg1⟩:=hp;have HM1:=Nc hm1;have HK1:=Nc hk1;have HG1:=Nc (aS HG.out hg1);clear hm1 hg1 hk1;go_wp2_with fail
  exact⟨rfl,Post.trr rfl rfl HM1.out HK1.out HG1.out⟩
theorem Ic(E:Env)(ov:Value)(S:Ms)(k:Nat)(s im ax bk sz:Int)(w:World)(h:Mc E ov S w)(hd:k < 8)(hm:U16 im):
  Calls Tryz.prog 110 #[.pointer (some ⟨E.b,0,none⟩),.agg #[.int .i64 21,.int .i64 (k:Int),.int .i64 s,.int .u16 im,.int .u16 ax,.int .i64 bk,.int .i64 sz]] w fun e w'=>Post E ov S w (lu S im) e w':=by
 have hlt:=h.lt;have hne:E.b≠w.heap.size:=by omega
 have HI:=Nc (aG w 21 (k:Int) s im ax bk sz);have H:=Nc (h.alloc (.cells #[.int .i64 21,.int .i64 (k:Int),.int .i64 s,.int .u16 im,.int .u16 ax,.int .i64 bk,.int .i64 sz] 58));have HG:=Nc (aJ (ah w (some E.b)) (.cells #[.int .i64 21,.int .i64 (k:Int),.int .i64 s,.int .u16 im,.int .u16 ax,.int .i64 bk,.int .i64 sz] 58));have HW:=Nc (show(w.alloc (.cells #[.int .i64 21,.int .i64 (k:Int),.int .i64 s,.int .u16 im,.int .u16 ax,.int .i64 bk,.int .i64 sz] 58)).heap.size=w.heap.size+1 by simp);have hsp:=h.ok.sp;obtain⟨n0,n1,n2,n3,n4,n5,n6⟩:=HI.out;have c16:=H.out.c16;obtain⟨m0,m1⟩:=hm;have HR:=Nc (show lu S im=if im≤(S.sp:Int) then .ok {S with sp:=S.sp-im.toNat} else .tr 5 0 from rfl);obtain⟨r,hr⟩:∃ r,lu S im=r:=⟨_,rfl⟩;rw[hr] at HR⊢;have HX:=Nc (fun (q:im≤(S.sp:Int))=>H.out.drew.vz (S.sp-im.toNat) (by omega));have HQ:=Nc (fun (q:im≤(S.sp:Int))=>(show(((S.sp-im.toNat:Nat)):Int)=(S.sp:Int)-im by omega));have hf:=H.out.frz;obtain⟨p,hp⟩:∃ p:Int,(S.sp:Int)=p:=⟨_,rfl⟩;rw[hp] at HR c16 HX HQ;have p0:0≤p:=by omega
 have p1:p≤4096:=by omega
 have hS1:=Nc (And.intro HI.out.2.2.2.1 c16);clear h hr hp hsp;by_cases q1:im≤p
 ·have dq:=decide_eq_true q1
  rw[HQ.out q1] at HX;go_enter Tryz.func110,Tryz.ntmps110
  go_wp2_with fail
  refine wp_region_held_drew (S:=fun w'=>w'.cell? ⟨w.heap.size,3,none⟩=some (.int .u16 im)∧w'.cell? ⟨E.b,16,none⟩=some (.int .u16 p)) (by kernel_rfl) (hS1.out) (fun hHeld=>?_);refine tq 0 rfl ?_;refine tq 1 rfl ?_;refine tq 2 rfl ?_;refine tq 3 rfl ?_;refine tq 4 rfl ?_;refine tq 5 rfl ?_;refine tq 6 rfl ?_;refine tq 7 rfl ?_;refine rd1 8 rfl (fun K hK=>?_);go_simp
  ((go_at_call 61;(with_reducible refine(dw _ _ _).mono ?_));rintro e w1 ⟨rfl,rfl⟩)
  go_wp2_with fail
  refine hK.out _ _ (hS1.out) (fun hHeld=>?_);clear hK K
  try simp only[lay]
  refine wpAnyH_done (by kernel_rfl) ?_ _;clear dq;obtain⟨wd,hwd⟩:∃ wd,(w.alloc (.cells #[.int .i64 21,.int .i64 (k:Int),.int .i64 s,.int .u16 im,.int .u16 ax,.int .i64 bk,.int .i64 sz] 58)).drew=wd:=⟨_,rfl⟩;have hS2:=hS1.out;have HG2:=Nc (aO HG.out);have c3:wd.cell? ⟨w.heap.size,3,none⟩=some (.int .u16 im):=hwd▸hS2.1;have d16:wd.cell? ⟨E.b,16,none⟩=some (.int .u16 p):=hwd▸hS2.2;have df:∀ j,wd.frozen? ⟨E.b,j,none⟩=false:=hwd▸hf;rw[hwd] at HX HG2⊢;clear hwd hS2 hf c16 n0 n1 n2 n3 n4 n5 n6;go_wp2_with fail
  go_region
  go_wp2_with fail
  go_end0
  exact Post.okk (HR.out.trans (if_pos q1)) rfl (HX.out q1).drew (aO (ag HG2.out _ _))
 ·have dq:=decide_eq_false q1
  go_enter Tryz.func110,Tryz.ntmps110
  go_wp2_with fail
  refine wp_region_held_drew (S:=fun w'=>w'.cell? ⟨w.heap.size,3,none⟩=some (.int .u16 im)∧w'.cell? ⟨E.b,16,none⟩=some (.int .u16 p)) (by kernel_rfl) (hS1.out) (fun hHeld=>?_);refine tq 0 rfl ?_;refine tq 1 rfl ?_;refine tq 2 rfl ?_;refine tq 3 rfl ?_;refine tq 4 rfl ?_;refine tq 5 rfl ?_;refine tq 6 rfl ?_;refine tq 7 rfl ?_;refine rd1 8 rfl (fun K hK=>?_);go_simp
  ((go_at_call 61;(with_reducible refine(bH _ _ _).mono ?_));rintro e w1 ⟨rfl,rfl⟩)
  go_wp2_with fail
  exact⟨rfl,Post.trr (HR.out.trans (if_neg (by omega))) rfl H.out.drew (Kp.refl S) (aO HG.out)⟩
theorem EJ(E:Env)(ov:Value)(S:Ms)(k:Nat)(s im ax bk sz:Int)(w:World)(h:Mc E ov S w)(hd:k < 8)(hm:U16 im):
  Calls Tryz.prog 110 #[.pointer (some ⟨E.b,0,none⟩),.agg #[.int .i64 160,.int .i64 (k:Int),.int .i64 s,.int .u16 im,.int .u16 ax,.int .i64 bk,.int .i64 sz]] w fun e w'=>Post E ov S w (cZ S (lF S 160 im) (aZ S k (S.stk (lF S 160 im).toNat))) e w':=by
 have hlt:=h.lt;have hne:E.b≠w.heap.size:=by omega
 have HI:=Nc (aG w 160 (k:Int) s im ax bk sz);have H:=Nc (h.alloc (.cells #[.int .i64 160,.int .i64 (k:Int),.int .i64 s,.int .u16 im,.int .u16 ax,.int .i64 bk,.int .i64 sz] 58));have HG:=Nc (aJ (ah w (some E.b)) (.cells #[.int .i64 160,.int .i64 (k:Int),.int .i64 s,.int .u16 im,.int .u16 ax,.int .i64 bk,.int .i64 sz] 58));have HW:=Nc (show(w.alloc (.cells #[.int .i64 160,.int .i64 (k:Int),.int .i64 s,.int .u16 im,.int .u16 ax,.int .i64 bk,.int .i64 sz] 58)).heap.size=w.heap.size+1 by simp);have hk8:(k:Int) < 8:=by omega
 obtain⟨n0,n1,n2,n3,n4,n5,n6⟩:=HI.out;have hsp:=h.ok.sp;have HOK:=Nc h.ok;have HC:=Nc (fun W (hw:Mc E ov S W)=>gV E ov S 160 k s im ax bk sz W hw hm);obtain⟨n,hn⟩:∃ n,lF S 160 im=n:=⟨_,rfl⟩;rw[hn] at HC⊢;clear h hn hm;by_cases q:0≤n∧n < (S.sp:Int)
 ·obtain⟨m,rfl⟩:∃ m:Nat,n=m:=⟨n.toNat,by omega⟩
  have hm4:m < 4096:=by omega
  have hm5:(m:Int) < 4096:=by omega
  have HR:=Nc (show cZ S (m:Int) (aZ S k (S.stk ((m:Int)).toNat))= .ok {S with r:=upd S.r k (S.stk m)} from if_pos q);obtain⟨r,hr⟩:∃ r,cZ S (m:Int) (aZ S k (S.stk ((m:Int)).toNat))=r:=⟨_,rfl⟩;rw[hr] at HR⊢;obtain⟨v,hvv⟩:∃ v,S.r k=v:=⟨_,rfl⟩;have hv:U16 v:=hvv▸HOK.out.r k hd;have hS1:=Nc (show(fun w'=>(w'.cell? ⟨w.heap.size,0,none⟩=some (.int .i64 160)∧w'.cell? ⟨w.heap.size,1,none⟩=some (.int .i64 (k:Int))∧w'.cell? ⟨w.heap.size,2,none⟩=some (.int .i64 s)∧w'.cell? ⟨w.heap.size,3,none⟩=some (.int .u16 im)∧w'.cell? ⟨w.heap.size,4,none⟩=some (.int .u16 ax)∧w'.cell? ⟨w.heap.size,5,none⟩=some (.int .i64 bk)∧w'.cell? ⟨w.heap.size,6,none⟩=some (.int .i64 sz))∧w'.cell? ⟨E.b,8215+m,none⟩=some (.int .u16 (S.stk m))) (w.alloc (.cells #[.int .i64 160,.int .i64 (k:Int),.int .i64 s,.int .u16 im,.int .u16 ax,.int .i64 bk,.int .i64 sz] 58)).drew from⟨HI.out,H.out.drew.nY m hm4⟩);obtain⟨x,hxx⟩:∃ x,S.stk m=x:=⟨_,rfl⟩;have hx:U16 x:=hxx▸HOK.out.stk m hm4;rw[hxx] at HR hS1;have HX:=Nc hxx;clear hxx;have HV:=Nc hvv;clear hr hvv;go_enter Tryz.func110,Tryz.ntmps110
  go_wp2_with fail
  refine wp_region_held_drew (S:=fun w'=>(w'.cell? ⟨w.heap.size,0,none⟩=some (.int .i64 160)∧w'.cell? ⟨w.heap.size,1,none⟩=some (.int .i64 (k:Int))∧w'.cell? ⟨w.heap.size,2,none⟩=some (.int .i64 s)∧w'.cell? ⟨w.heap.size,3,none⟩=some (.int .u16 im)∧w'.cell? ⟨w.heap.size,4,none⟩=some (.int .u16 ax)∧w'.cell? ⟨w.heap.size,5,none⟩=some (.int .i64 bk)∧w'.cell? ⟨w.heap.size,6,none⟩=some (.int .i64 sz))∧w'.cell? ⟨E.b,8215+m,none⟩=some (.int .u16 x)) (by kernel_rfl) (hS1.out) (fun hHeld=>?_);refine tq 0 rfl ?_;refine tq 1 rfl ?_;refine tq 2 rfl ?_;refine tq 3 rfl ?_;refine tq 4 rfl ?_;refine tq 5 rfl ?_;refine tq 7 rfl ?_;refine tq 8 rfl ?_;refine tq 11 rfl ?_;refine tq 12 rfl ?_;refine tq 13 rfl ?_;refine rd1 6 rfl (fun K hK=>?_);go_simp
  ((go_at_call 147;(with_reducible refine(HC.out _ H.out.drew).mono ?_));rintro e w1 ⟨he,hb1⟩;obtain rfl:=NP.yes q he;have hm1:=H.out.drew.kept hb1;have HM1:=Nc hm1;have HY:=Nc (hm1.aZ k hd x hx);have HG1:=Nc (ag (ak (aO HG.out) hb1) (7+k) (.int .u16 x));have HB1:=Nc (Bxi.kept (w:=(w.alloc (.cells #[.int .i64 160,.int .i64 (k:Int),.int .i64 s,.int .u16 im,.int .u16 ax,.int .i64 bk,.int .i64 sz] 58)).drew) HI.out (ak (ah _ (some E.b)) hb1) hne);have HB2:=Nc (Bxi.kept HB1.out (ag (ah w1 (some E.b)) (7+k) (.int .u16 x)) hne);have ck1:=hm1.cR k hd;have ck2:=hm1.nY m hm4;have cf1:=hm1.frz;clear hm1 hb1 he)
  go_wp2_with fail
  refine hK.out _ _ (⟨HB1.out,HX.out▸HM1.out.nY m hm4⟩) (fun hHeld=>?_);clear hK K
  try simp only[lay]
  refine tq 9 rfl ?_;refine tq 10 rfl ?_;refine tq 14 rfl ?_;refine rd1 15 rfl (fun K hK=>?_);go_simp;refine hK.out _ _ (⟨HB2.out,HX.out▸HY.out.nY m hm4⟩) (fun hHeld=>?_);clear hK K
  try simp only[lay]
  refine wpAnyH_done (by kernel_rfl) ?_ _;go_wp2_with fail
  go_end0
  exact Post.okk HR.out rfl HY.out HG1.out
 ·have HR:=Nc (fun f=>(if_neg q:cZ S n f= .tr 5 0))
  obtain⟨r,hr⟩:∃ r,cZ S n (aZ S k (S.stk n.toNat))=r:=⟨_,rfl⟩;have HR2:=Nc (hr.symm.trans (HR.out _));rw[hr];clear hr;go_enter Tryz.func110,Tryz.ntmps110
  go_wp2_with fail
  refine wp_region_held_drew (S:=fun w'=>(w'.cell? ⟨w.heap.size,0,none⟩=some (.int .i64 160)∧w'.cell? ⟨w.heap.size,1,none⟩=some (.int .i64 (k:Int))∧w'.cell? ⟨w.heap.size,2,none⟩=some (.int .i64 s)∧w'.cell? ⟨w.heap.size,3,none⟩=some (.int .u16 im)∧w'.cell? ⟨w.heap.size,4,none⟩=some (.int .u16 ax)∧w'.cell? ⟨w.heap.size,5,none⟩=some (.int .i64 bk)∧w'.cell? ⟨w.heap.size,6,none⟩=some (.int .i64 sz))) (by kernel_rfl) (HI.out) (fun hHeld=>?_);refine tq 0 rfl ?_;refine tq 1 rfl ?_;refine tq 2 rfl ?_;refine tq 3 rfl ?_;refine tq 4 rfl ?_;refine tq 5 rfl ?_;refine tq 7 rfl ?_;refine tq 8 rfl ?_;refine tq 11 rfl ?_;refine tq 12 rfl ?_;refine tq 13 rfl ?_;refine rd1 6 rfl (fun K hK=>?_);go_simp
  ((go_at_call 147;(with_reducible refine(HC.out _ H.out.drew).mono ?_));rintro e w1 ⟨he,hb1⟩;obtain rfl:=NP.no q he;have HM1:=Nc (H.out.drew.kept hb1);have HG1:=Nc (ak (aO HG.out) hb1);clear hb1 he)
  go_wp2_with fail
  exact⟨rfl,Post.trr HR2.out rfl HM1.out (Kp.refl S) HG1.out⟩
theorem EH(E:Env)(ov:Value)(S:Ms)(k:Nat)(s im ax bk sz:Int)(w:World)(h:Mc E ov S w)(hd:k < 8)(hm:U16 im):
  Calls Tryz.prog 110 #[.pointer (some ⟨E.b,0,none⟩),.agg #[.int .i64 162,.int .i64 (k:Int),.int .i64 s,.int .u16 im,.int .u16 ax,.int .i64 bk,.int .i64 sz]] w fun e w'=>Post E ov S w (cZ S (lF S 162 im) (aZ S k (S.stk (lF S 162 im).toNat))) e w':=by
 have hlt:=h.lt;have hne:E.b≠w.heap.size:=by omega
 have HI:=Nc (aG w 162 (k:Int) s im ax bk sz);have H:=Nc (h.alloc (.cells #[.int .i64 162,.int .i64 (k:Int),.int .i64 s,.int .u16 im,.int .u16 ax,.int .i64 bk,.int .i64 sz] 58));have HG:=Nc (aJ (ah w (some E.b)) (.cells #[.int .i64 162,.int .i64 (k:Int),.int .i64 s,.int .u16 im,.int .u16 ax,.int .i64 bk,.int .i64 sz] 58));have HW:=Nc (show(w.alloc (.cells #[.int .i64 162,.int .i64 (k:Int),.int .i64 s,.int .u16 im,.int .u16 ax,.int .i64 bk,.int .i64 sz] 58)).heap.size=w.heap.size+1 by simp);have hk8:(k:Int) < 8:=by omega
 obtain⟨n0,n1,n2,n3,n4,n5,n6⟩:=HI.out;have hsp:=h.ok.sp;have HOK:=Nc h.ok;have HC:=Nc (fun W (hw:Mc E ov S W)=>gV E ov S 162 k s im ax bk sz W hw hm);obtain⟨n,hn⟩:∃ n,lF S 162 im=n:=⟨_,rfl⟩;rw[hn] at HC⊢;clear h hn hm;by_cases q:0≤n∧n < (S.sp:Int)
 ·obtain⟨m,rfl⟩:∃ m:Nat,n=m:=⟨n.toNat,by omega⟩
  have hm4:m < 4096:=by omega
  have hm5:(m:Int) < 4096:=by omega
  have HR:=Nc (show cZ S (m:Int) (aZ S k (S.stk ((m:Int)).toNat))= .ok {S with r:=upd S.r k (S.stk m)} from if_pos q);obtain⟨r,hr⟩:∃ r,cZ S (m:Int) (aZ S k (S.stk ((m:Int)).toNat))=r:=⟨_,rfl⟩;rw[hr] at HR⊢;obtain⟨v,hvv⟩:∃ v,S.r k=v:=⟨_,rfl⟩;have hv:U16 v:=hvv▸HOK.out.r k hd;have hS1:=Nc (show(fun w'=>(w'.cell? ⟨w.heap.size,0,none⟩=some (.int .i64 162)∧w'.cell? ⟨w.heap.size,1,none⟩=some (.int .i64 (k:Int))∧w'.cell? ⟨w.heap.size,2,none⟩=some (.int .i64 s)∧w'.cell? ⟨w.heap.size,3,none⟩=some (.int .u16 im)∧w'.cell? ⟨w.heap.size,4,none⟩=some (.int .u16 ax)∧w'.cell? ⟨w.heap.size,5,none⟩=some (.int .i64 bk)∧w'.cell? ⟨w.heap.size,6,none⟩=some (.int .i64 sz))∧w'.cell? ⟨E.b,8215+m,none⟩=some (.int .u16 (S.stk m))) (w.alloc (.cells #[.int .i64 162,.int .i64 (k:Int),.int .i64 s,.int .u16 im,.int .u16 ax,.int .i64 bk,.int .i64 sz] 58)).drew from⟨HI.out,H.out.drew.nY m hm4⟩);obtain⟨x,hxx⟩:∃ x,S.stk m=x:=⟨_,rfl⟩;have hx:U16 x:=hxx▸HOK.out.stk m hm4;rw[hxx] at HR hS1;have HX:=Nc hxx;clear hxx;have HV:=Nc hvv;clear hr hvv;go_enter Tryz.func110,Tryz.ntmps110
  go_wp2_with fail
  refine wp_region_held_drew (S:=fun w'=>(w'.cell? ⟨w.heap.size,0,none⟩=some (.int .i64 162)∧w'.cell? ⟨w.heap.size,1,none⟩=some (.int .i64 (k:Int))∧w'.cell? ⟨w.heap.size,2,none⟩=some (.int .i64 s)∧w'.cell? ⟨w.heap.size,3,none⟩=some (.int .u16 im)∧w'.cell? ⟨w.heap.size,4,none⟩=some (.int .u16 ax)∧w'.cell? ⟨w.heap.size,5,none⟩=some (.int .i64 bk)∧w'.cell? ⟨w.heap.size,6,none⟩=some (.int .i64 sz))∧w'.cell? ⟨E.b,8215+m,none⟩=some (.int .u16 x)) (by kernel_rfl) (hS1.out) (fun hHeld=>?_);refine tq 0 rfl ?_;refine tq 1 rfl ?_;refine tq 2 rfl ?_;refine tq 3 rfl ?_;refine tq 4 rfl ?_;refine tq 5 rfl ?_;refine tq 7 rfl ?_;refine tq 8 rfl ?_;refine tq 11 rfl ?_;refine tq 12 rfl ?_;refine tq 13 rfl ?_;refine rd1 6 rfl (fun K hK=>?_);go_simp
  ((go_at_call 147;(with_reducible refine(HC.out _ H.out.drew).mono ?_));rintro e w1 ⟨he,hb1⟩;obtain rfl:=NP.yes q he;have hm1:=H.out.drew.kept hb1;have HM1:=Nc hm1;have HY:=Nc (hm1.aZ k hd x hx);have HG1:=Nc (ag (ak (aO HG.out) hb1) (7+k) (.int .u16 x));have HB1:=Nc (Bxi.kept (w:=(w.alloc (.cells #[.int .i64 162,.int .i64 (k:Int),.int .i64 s,.int .u16 im,.int .u16 ax,.int .i64 bk,.int .i64 sz] 58)).drew) HI.out (ak (ah _ (some E.b)) hb1) hne);have HB2:=Nc (Bxi.kept HB1.out (ag (ah w1 (some E.b)) (7+k) (.int .u16 x)) hne);have ck1:=hm1.cR k hd;have ck2:=hm1.nY m hm4;have cf1:=hm1.frz;clear hm1 hb1 he)
  go_wp2_with fail
  refine hK.out _ _ (⟨HB1.out,HX.out▸HM1.out.nY m hm4⟩) (fun hHeld=>?_);clear hK K
  try simp only[lay]
  refine tq 9 rfl ?_;refine tq 10 rfl ?_;refine tq 14 rfl ?_;refine rd1 15 rfl (fun K hK=>?_);go_simp;refine hK.out _ _ (⟨HB2.out,HX.out▸HY.out.nY m hm4⟩) (fun hHeld=>?_);clear hK K
  try simp only[lay]
  refine wpAnyH_done (by kernel_rfl) ?_ _;go_wp2_with fail
  go_end0
  exact Post.okk HR.out rfl HY.out HG1.out
 ·have HR:=Nc (fun f=>(if_neg q:cZ S n f= .tr 5 0))
  obtain⟨r,hr⟩:∃ r,cZ S n (aZ S k (S.stk n.toNat))=r:=⟨_,rfl⟩;have HR2:=Nc (hr.symm.trans (HR.out _));rw[hr];clear hr;go_enter Tryz.func110,Tryz.ntmps110
  go_wp2_with fail
  refine wp_region_held_drew (S:=fun w'=>(w'.cell? ⟨w.heap.size,0,none⟩=some (.int .i64 162)∧w'.cell? ⟨w.heap.size,1,none⟩=some (.int .i64 (k:Int))∧w'.cell? ⟨w.heap.size,2,none⟩=some (.int .i64 s)∧w'.cell? ⟨w.heap.size,3,none⟩=some (.int .u16 im)∧w'.cell? ⟨w.heap.size,4,none⟩=some (.int .u16 ax)∧w'.cell? ⟨w.heap.size,5,none⟩=some (.int .i64 bk)∧w'.cell? ⟨w.heap.size,6,none⟩=some (.int .i64 sz))) (by kernel_rfl) (HI.out) (fun hHeld=>?_);refine tq 0 rfl ?_;refine tq 1 rfl ?_;refine tq 2 rfl ?_;refine tq 3 rfl ?_;refine tq 4 rfl ?_;refine tq 5 rfl ?_;refine tq 7 rfl ?_;refine tq 8 rfl ?_;refine tq 11 rfl ?_;refine tq 12 rfl ?_;refine tq 13 rfl ?_;refine rd1 6 rfl (fun K hK=>?_);go_simp
  ((go_at_call 147;(with_reducible refine(HC.out _ H.out.drew).mono ?_));rintro e w1 ⟨he,hb1⟩;obtain rfl:=NP.no q he;have HM1:=Nc (H.out.drew.kept hb1);have HG1:=Nc (ak (aO HG.out) hb1);clear hb1 he)
  go_wp2_with fail
  exact⟨rfl,Post.trr HR2.out rfl HM1.out (Kp.refl S) HG1.out⟩
theorem EI(E:Env)(ov:Value)(S:Ms)(k:Nat)(s im ax bk sz:Int)(w:World)(h:Mc E ov S w)(hd:k < 8)(hm:U16 im):
  Calls Tryz.prog 110 #[.pointer (some ⟨E.b,0,none⟩),.agg #[.int .i64 161,.int .i64 (k:Int),.int .i64 s,.int .u16 im,.int .u16 ax,.int .i64 bk,.int .i64 sz]] w fun e w'=>Post E ov S w (cZ S (lF S 161 im) {S with stk:=upd S.stk (lF S 161 im).toNat (S.r k)}) e w':=by
 have hlt:=h.lt;have hne:E.b≠w.heap.size:=by omega
 have HI:=Nc (aG w 161 (k:Int) s im ax bk sz);have H:=Nc (h.alloc (.cells #[.int .i64 161,.int .i64 (k:Int),.int .i64 s,.int .u16 im,.int .u16 ax,.int .i64 bk,.int .i64 sz] 58));have HG:=Nc (aJ (ah w (some E.b)) (.cells #[.int .i64 161,.int .i64 (k:Int),.int .i64 s,.int .u16 im,.int .u16 ax,.int .i64 bk,.int .i64 sz] 58));have HW:=Nc (show(w.alloc (.cells #[.int .i64 161,.int .i64 (k:Int),.int .i64 s,.int .u16 im,.int .u16 ax,.int .i64 bk,.int .i64 sz] 58)).heap.size=w.heap.size+1 by simp);have hk8:(k:Int) < 8:=by omega
 obtain⟨n0,n1,n2,n3,n4,n5,n6⟩:=HI.out;have hsp:=h.ok.sp;have HOK:=Nc h.ok;have HC:=Nc (fun W (hw:Mc E ov S W)=>gV E ov S 161 k s im ax bk sz W hw hm);obtain⟨n,hn⟩:∃ n,lF S 161 im=n:=⟨_,rfl⟩;rw[hn] at HC⊢;clear h hn hm;by_cases q:0≤n∧n < (S.sp:Int)
 ·obtain⟨m,rfl⟩:∃ m:Nat,n=m:=⟨n.toNat,by omega⟩
  have hm4:m < 4096:=by omega
  have hm5:(m:Int) < 4096:=by omega
  have HR:=Nc (show cZ S (m:Int) ({S with stk:=upd S.stk ((m:Int)).toNat (S.r k)})= .ok {S with stk:=upd S.stk m (S.r k)} from if_pos q);obtain⟨r,hr⟩:∃ r,cZ S (m:Int) ({S with stk:=upd S.stk ((m:Int)).toNat (S.r k)})=r:=⟨_,rfl⟩;rw[hr] at HR⊢;obtain⟨v,hvv⟩:∃ v,S.r k=v:=⟨_,rfl⟩;have hv:U16 v:=hvv▸HOK.out.r k hd;have hS1:=Nc (show(fun w'=>(w'.cell? ⟨w.heap.size,0,none⟩=some (.int .i64 161)∧w'.cell? ⟨w.heap.size,1,none⟩=some (.int .i64 (k:Int))∧w'.cell? ⟨w.heap.size,2,none⟩=some (.int .i64 s)∧w'.cell? ⟨w.heap.size,3,none⟩=some (.int .u16 im)∧w'.cell? ⟨w.heap.size,4,none⟩=some (.int .u16 ax)∧w'.cell? ⟨w.heap.size,5,none⟩=some (.int .i64 bk)∧w'.cell? ⟨w.heap.size,6,none⟩=some (.int .i64 sz))∧w'.cell? ⟨E.b,7+k,none⟩=some (.int .u16 v)) (w.alloc (.cells #[.int .i64 161,.int .i64 (k:Int),.int .i64 s,.int .u16 im,.int .u16 ax,.int .i64 bk,.int .i64 sz] 58)).drew from⟨HI.out,hvv▸H.out.drew.cR k hd⟩);rw[hvv] at HR;have HV:=Nc hvv;clear hr hvv;go_enter Tryz.func110,Tryz.ntmps110
  go_wp2_with fail
  refine wp_region_held_drew (S:=fun w'=>(w'.cell? ⟨w.heap.size,0,none⟩=some (.int .i64 161)∧w'.cell? ⟨w.heap.size,1,none⟩=some (.int .i64 (k:Int))∧w'.cell? ⟨w.heap.size,2,none⟩=some (.int .i64 s)∧w'.cell? ⟨w.heap.size,3,none⟩=some (.int .u16 im)∧w'.cell? ⟨w.heap.size,4,none⟩=some (.int .u16 ax)∧w'.cell? ⟨w.heap.size,5,none⟩=some (.int .i64 bk)∧w'.cell? ⟨w.heap.size,6,none⟩=some (.int .i64 sz))∧w'.cell? ⟨E.b,7+k,none⟩=some (.int .u16 v)) (by kernel_rfl) (hS1.out) (fun hHeld=>?_);refine tq 0 rfl ?_;refine tq 1 rfl ?_;refine tq 2 rfl ?_;refine tq 4 rfl ?_;refine tq 5 rfl ?_;refine tq 6 rfl ?_;refine tq 7 rfl ?_;refine tq 8 rfl ?_;refine tq 9 rfl ?_;refine tq 12 rfl ?_;refine tq 13 rfl ?_;refine tq 10 rfl ?_;refine tq 11 rfl ?_;refine rd1 3 rfl (fun K hK=>?_);go_simp
  ((go_at_call 147;(with_reducible refine(HC.out _ H.out.drew).mono ?_));rintro e w1 ⟨he,hb1⟩;obtain rfl:=NP.yes q he;have hm1:=H.out.drew.kept hb1;have HM1:=Nc hm1;have HY:=Nc (hm1.nH m hm4 v hv);have HG1:=Nc (ag (ak (aO HG.out) hb1) (8215+m) (.int .u16 v));have HB1:=Nc (Bxi.kept (w:=(w.alloc (.cells #[.int .i64 161,.int .i64 (k:Int),.int .i64 s,.int .u16 im,.int .u16 ax,.int .i64 bk,.int .i64 sz] 58)).drew) HI.out (ak (ah _ (some E.b)) hb1) hne);have HB2:=Nc (Bxi.kept HB1.out (ag (ah w1 (some E.b)) (8215+m) (.int .u16 v)) hne);have ck1:=hm1.cR k hd;have ck2:=hm1.nY m hm4;have cf1:=hm1.frz;clear hm1 hb1 he)
  go_wp2_with fail
  refine hK.out _ _ (⟨HB1.out,HV.out▸HM1.out.cR k hd⟩) (fun hHeld=>?_);clear hK K
  try simp only[lay]
  refine tq 14 rfl ?_;refine rd1 15 rfl (fun K hK=>?_);go_simp;refine hK.out _ _ (⟨HB2.out,HV.out▸HY.out.cR k hd⟩) (fun hHeld=>?_);clear hK K
  try simp only[lay]
  refine wpAnyH_done (by kernel_rfl) ?_ _;go_wp2_with fail
  go_end0
  exact Post.okk HR.out rfl HY.out HG1.out
 ·have HR:=Nc (fun f=>(if_neg q:cZ S n f= .tr 5 0))
  obtain⟨r,hr⟩:∃ r,cZ S n ({S with stk:=upd S.stk n.toNat (S.r k)})=r:=⟨_,rfl⟩;have HR2:=Nc (hr.symm.trans (HR.out _));rw[hr];clear hr;obtain⟨v,hvv⟩:∃ v,S.r k=v:=⟨_,rfl⟩;have hS0:=Nc (And.intro HI.out (hvv▸H.out.drew.cR k hd));have hS9:=Nc (show(fun w'=>(w'.cell? ⟨w.heap.size,0,none⟩=some (.int .i64 161)∧w'.cell? ⟨w.heap.size,1,none⟩=some (.int .i64 (k:Int))∧w'.cell? ⟨w.heap.size,2,none⟩=some (.int .i64 s)∧w'.cell? ⟨w.heap.size,3,none⟩=some (.int .u16 im)∧w'.cell? ⟨w.heap.size,4,none⟩=some (.int .u16 ax)∧w'.cell? ⟨w.heap.size,5,none⟩=some (.int .i64 bk)∧w'.cell? ⟨w.heap.size,6,none⟩=some (.int .i64 sz))∧w'.cell? ⟨E.b,7+k,none⟩=some (.int .u16 v)) (w.alloc (.cells #[.int .i64 161,.int .i64 (k:Int),.int .i64 s,.int .u16 im,.int .u16 ax,.int .i64 bk,.int .i64 sz] 58)).drew from hS0.out);clear hvv;go_enter Tryz.func110,Tryz.ntmps110
  go_wp2_with fail
  refine wp_region_held_drew (S:=fun w'=>(w'.cell? ⟨w.heap.size,0,none⟩=some (.int .i64 161)∧w'.cell? ⟨w.heap.size,1,none⟩=some (.int .i64 (k:Int))∧w'.cell? ⟨w.heap.size,2,none⟩=some (.int .i64 s)∧w'.cell? ⟨w.heap.size,3,none⟩=some (.int .u16 im)∧w'.cell? ⟨w.heap.size,4,none⟩=some (.int .u16 ax)∧w'.cell? ⟨w.heap.size,5,none⟩=some (.int .i64 bk)∧w'.cell? ⟨w.heap.size,6,none⟩=some (.int .i64 sz))∧w'.cell? ⟨E.b,7+k,none⟩=some (.int .u16 v)) (by kernel_rfl) (hS9.out) (fun hHeld=>?_);refine tq 0 rfl ?_;refine tq 1 rfl ?_;refine tq 2 rfl ?_;refine tq 4 rfl ?_;refine tq 5 rfl ?_;refine tq 6 rfl ?_;refine tq 7 rfl ?_;refine tq 8 rfl ?_;refine tq 9 rfl ?_;refine tq 12 rfl ?_;refine tq 13 rfl ?_;refine tq 10 rfl ?_;refine tq 11 rfl ?_;refine rd1 3 rfl (fun K hK=>?_);go_simp
  ((go_at_call 147;(with_reducible refine(HC.out _ H.out.drew).mono ?_));rintro e w1 ⟨he,hb1⟩;obtain rfl:=NP.no q he;have HM1:=Nc (H.out.drew.kept hb1);have HG1:=Nc (ak (aO HG.out) hb1);clear hb1 he)
  go_wp2_with fail
  exact⟨rfl,Post.trr HR2.out rfl HM1.out (Kp.refl S) HG1.out⟩
theorem EG(E:Env)(ov:Value)(S:Ms)(k:Nat)(s im ax bk sz:Int)(w:World)(h:Mc E ov S w)(hd:k < 8)(hm:U16 im):
  Calls Tryz.prog 110 #[.pointer (some ⟨E.b,0,none⟩),.agg #[.int .i64 163,.int .i64 (k:Int),.int .i64 s,.int .u16 im,.int .u16 ax,.int .i64 bk,.int .i64 sz]] w fun e w'=>Post E ov S w (cZ S (lF S 163 im) {S with stk:=upd S.stk (lF S 163 im).toNat (S.r k)}) e w':=by
 have hlt:=h.lt;have hne:E.b≠w.heap.size:=by omega
 have HI:=Nc (aG w 163 (k:Int) s im ax bk sz);have H:=Nc (h.alloc (.cells #[.int .i64 163,.int .i64 (k:Int),.int .i64 s,.int .u16 im,.int .u16 ax,.int .i64 bk,.int .i64 sz] 58));have HG:=Nc (aJ (ah w (some E.b)) (.cells #[.int .i64 163,.int .i64 (k:Int),.int .i64 s,.int .u16 im,.int .u16 ax,.int .i64 bk,.int .i64 sz] 58));have HW:=Nc (show(w.alloc (.cells #[.int .i64 163,.int .i64 (k:Int),.int .i64 s,.int .u16 im,.int .u16 ax,.int .i64 bk,.int .i64 sz] 58)).heap.size=w.heap.size+1 by simp);have hk8:(k:Int) < 8:=by omega
 obtain⟨n0,n1,n2,n3,n4,n5,n6⟩:=HI.out;have hsp:=h.ok.sp;have HOK:=Nc h.ok;have HC:=Nc (fun W (hw:Mc E ov S W)=>gV E ov S 163 k s im ax bk sz W hw hm);obtain⟨n,hn⟩:∃ n,lF S 163 im=n:=⟨_,rfl⟩;rw[hn] at HC⊢;clear h hn hm;by_cases q:0≤n∧n < (S.sp:Int)
 ·obtain⟨m,rfl⟩:∃ m:Nat,n=m:=⟨n.toNat,by omega⟩
  have hm4:m < 4096:=by omega
  have hm5:(m:Int) < 4096:=by omega
  have HR:=Nc (show cZ S (m:Int) ({S with stk:=upd S.stk ((m:Int)).toNat (S.r k)})= .ok {S with stk:=upd S.stk m (S.r k)} from if_pos q);obtain⟨r,hr⟩:∃ r,cZ S (m:Int) ({S with stk:=upd S.stk ((m:Int)).toNat (S.r k)})=r:=⟨_,rfl⟩;rw[hr] at HR⊢;obtain⟨v,hvv⟩:∃ v,S.r k=v:=⟨_,rfl⟩;have hv:U16 v:=hvv▸HOK.out.r k hd;have hS1:=Nc (show(fun w'=>(w'.cell? ⟨w.heap.size,0,none⟩=some (.int .i64 163)∧w'.cell? ⟨w.heap.size,1,none⟩=some (.int .i64 (k:Int))∧w'.cell? ⟨w.heap.size,2,none⟩=some (.int .i64 s)∧w'.cell? ⟨w.heap.size,3,none⟩=some (.int .u16 im)∧w'.cell? ⟨w.heap.size,4,none⟩=some (.int .u16 ax)∧w'.cell? ⟨w.heap.size,5,none⟩=some (.int .i64 bk)∧w'.cell? ⟨w.heap.size,6,none⟩=some (.int .i64 sz))∧w'.cell? ⟨E.b,7+k,none⟩=some (.int .u16 v)) (w.alloc (.cells #[.int .i64 163,.int .i64 (k:Int),.int .i64 s,.int .u16 im,.int .u16 ax,.int .i64 bk,.int .i64 sz] 58)).drew from⟨HI.out,hvv▸H.out.drew.cR k hd⟩);rw[hvv] at HR;have HV:=Nc hvv;clear hr hvv;go_enter Tryz.func110,Tryz.ntmps110
  go_wp2_with fail
  refine wp_region_held_drew (S:=fun w'=>(w'.cell? ⟨w.heap.size,0,none⟩=some (.int .i64 163)∧w'.cell? ⟨w.heap.size,1,none⟩=some (.int .i64 (k:Int))∧w'.cell? ⟨w.heap.size,2,none⟩=some (.int .i64 s)∧w'.cell? ⟨w.heap.size,3,none⟩=some (.int .u16 im)∧w'.cell? ⟨w.heap.size,4,none⟩=some (.int .u16 ax)∧w'.cell? ⟨w.heap.size,5,none⟩=some (.int .i64 bk)∧w'.cell? ⟨w.heap.size,6,none⟩=some (.int .i64 sz))∧w'.cell? ⟨E.b,7+k,none⟩=some (.int .u16 v)) (by kernel_rfl) (hS1.out) (fun hHeld=>?_);refine tq 0 rfl ?_;refine tq 1 rfl ?_;refine tq 2 rfl ?_;refine tq 4 rfl ?_;refine tq 5 rfl ?_;refine tq 6 rfl ?_;refine tq 7 rfl ?_;refine tq 8 rfl ?_;refine tq 9 rfl ?_;refine tq 12 rfl ?_;refine tq 13 rfl ?_;refine tq 10 rfl ?_;refine tq 11 rfl ?_;refine rd1 3 rfl (fun K hK=>?_);go_simp
  ((go_at_call 147;(with_reducible refine(HC.out _ H.out.drew).mono ?_));rintro e w1 ⟨he,hb1⟩;obtain rfl:=NP.yes q he;have hm1:=H.out.drew.kept hb1;have HM1:=Nc hm1;have HY:=Nc (hm1.nH m hm4 v hv);have HG1:=Nc (ag (ak (aO HG.out) hb1) (8215+m) (.int .u16 v));have HB1:=Nc (Bxi.kept (w:=(w.alloc (.cells #[.int .i64 163,.int .i64 (k:Int),.int .i64 s,.int .u16 im,.int .u16 ax,.int .i64 bk,.int .i64 sz] 58)).drew) HI.out (ak (ah _ (some E.b)) hb1) hne);have HB2:=Nc (Bxi.kept HB1.out (ag (ah w1 (some E.b)) (8215+m) (.int .u16 v)) hne);have ck1:=hm1.cR k hd;have ck2:=hm1.nY m hm4;have cf1:=hm1.frz;clear hm1 hb1 he)
  go_wp2_with fail
  refine hK.out _ _ (⟨HB1.out,HV.out▸HM1.out.cR k hd⟩) (fun hHeld=>?_);clear hK K
  try simp only[lay]
  refine tq 14 rfl ?_;refine rd1 15 rfl (fun K hK=>?_);go_simp;refine hK.out _ _ (⟨HB2.out,HV.out▸HY.out.cR k hd⟩) (fun hHeld=>?_);clear hK K
  try simp only[lay]
  refine wpAnyH_done (by kernel_rfl) ?_ _;go_wp2_with fail
  go_end0
  exact Post.okk HR.out rfl HY.out HG1.out
 ·have HR:=Nc (fun f=>(if_neg q:cZ S n f= .tr 5 0))
  obtain⟨r,hr⟩:∃ r,cZ S n ({S with stk:=upd S.stk n.toNat (S.r k)})=r:=⟨_,rfl⟩;have HR2:=Nc (hr.symm.trans (HR.out _));rw[hr];clear hr;obtain⟨v,hvv⟩:∃ v,S.r k=v:=⟨_,rfl⟩;have hS0:=Nc (And.intro HI.out (hvv▸H.out.drew.cR k hd));have hS9:=Nc (show(fun w'=>(w'.cell? ⟨w.heap.size,0,none⟩=some (.int .i64 163)∧w'.cell? ⟨w.heap.size,1,none⟩=some (.int .i64 (k:Int))∧w'.cell? ⟨w.heap.size,2,none⟩=some (.int .i64 s)∧w'.cell? ⟨w.heap.size,3,none⟩=some (.int .u16 im)∧w'.cell? ⟨w.heap.size,4,none⟩=some (.int .u16 ax)∧w'.cell? ⟨w.heap.size,5,none⟩=some (.int .i64 bk)∧w'.cell? ⟨w.heap.size,6,none⟩=some (.int .i64 sz))∧w'.cell? ⟨E.b,7+k,none⟩=some (.int .u16 v)) (w.alloc (.cells #[.int .i64 163,.int .i64 (k:Int),.int .i64 s,.int .u16 im,.int .u16 ax,.int .i64 bk,.int .i64 sz] 58)).drew from hS0.out);clear hvv;go_enter Tryz.func110,Tryz.ntmps110
  go_wp2_with fail
  refine wp_region_held_drew (S:=fun w'=>(w'.cell? ⟨w.heap.size,0,none⟩=some (.int .i64 163)∧w'.cell? ⟨w.heap.size,1,none⟩=some (.int .i64 (k:Int))∧w'.cell? ⟨w.heap.size,2,none⟩=some (.int .i64 s)∧w'.cell? ⟨w.heap.size,3,none⟩=some (.int .u16 im)∧w'.cell? ⟨w.heap.size,4,none⟩=some (.int .u16 ax)∧w'.cell? ⟨w.heap.size,5,none⟩=some (.int .i64 bk)∧w'.cell? ⟨w.heap.size,6,none⟩=some (.int .i64 sz))∧w'.cell? ⟨E.b,7+k,none⟩=some (.int .u16 v)) (by kernel_rfl) (hS9.out) (fun hHeld=>?_);refine tq 0 rfl ?_;refine tq 1 rfl ?_;refine tq 2 rfl ?_;refine tq 4 rfl ?_;refine tq 5 rfl ?_;refine tq 6 rfl ?_;refine tq 7 rfl ?_;refine tq 8 rfl ?_;refine tq 9 rfl ?_;refine tq 12 rfl ?_;refine tq 13 rfl ?_;refine tq 10 rfl ?_;refine tq 11 rfl ?_;refine rd1 3 rfl (fun K hK=>?_);go_simp
  ((go_at_call 147;(with_reducible refine(HC.out _ H.out.drew).mono ?_));rintro e w1 ⟨he,hb1⟩;obtain rfl:=NP.no q he;have HM1:=Nc (H.out.drew.kept hb1);have HG1:=Nc (ak (aO HG.out) hb1);clear hb1 he)
  go_wp2_with fail
  exact⟨rfl,Post.trr HR2.out rfl HM1.out (Kp.refl S) HG1.out⟩
end Go.Proofs.YthkcloapiefggaaGreatDoor
