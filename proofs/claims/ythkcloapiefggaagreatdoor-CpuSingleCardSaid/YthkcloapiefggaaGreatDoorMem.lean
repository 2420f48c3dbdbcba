/- Places and stores. Bytes of banks. Words of bytes. The stack's instructions. Frames. -/
import Derived.Test.YthkcloapiefggaaGreatDoorMac
namespace Go.Proofs.YthkcloapiefggaaGreatDoor
set_option linter.unusedVariables false
set_option linter.unusedSimpArgs false
set_option maxRecDepth 100000
set_option maxHeartbeats 1000000
open Go.ChangeShapes Go.WideShapes Go.RowKit
theorem placeOf_any (E:Env) (ov:Value) (S:Ms) (a:Int) (w:World) (h:Mc E ov S w) (ha:U16 a):
  Calls Tryz.prog 104 #[.pointer (some ⟨E.b,0,none⟩),.int .u16 a] w fun e w'=>e= .returned (.agg #[.int .i64 (plB S a),.int .u16 a])∧Below w.heap.size w w':=by
 have HB:=Lib.hid ((Below.refl _ w).alloc (Nat.le_refl _) (.cells #[.int .i64 0,.int .u16 0] 77))
 have c19:=(h.alloc (.cells #[.int .i64 0,.int .u16 0] 77)).c19
 have hn:=heap_alloc_new w (.cells #[.int .i64 0,.int .u16 0] 77)
 have n0:=block_cells hn 0 _ rfl
 have n1:=block_cells hn 1 _ rfl
 have hlt:=h.lt
 have hne:E.b≠w.heap.size:=by omega
 clear h hn
 by_cases q:a < 4096
 ·have HP:=Lib.hid (show plB S a=0 from if_pos q)
  go_enter Tryz.func104,Tryz.ntmps104
  go_wp2_with fail
  exact bodyPost_ret (v:= .agg #[.int .i64 0,.int .u16 a]) (by simp[results,Tryz.results104,go_sem]) rfl ⟨by rw[HP.out],(Below.refl _ w).alloc (Nat.le_refl _) _⟩
 ·have HP:=Lib.hid (show plB S a=S.bank from if_neg q)
  go_enter Tryz.func104,Tryz.ntmps104
  go_wp2_with fail
  exact bodyPost_ret (v:= .agg #[.int .i64 S.bank,.int .u16 a]) (by simp[results,Tryz.results104,go_sem]) rfl ⟨by rw[HP.out],(Below.refl _ w).alloc (Nat.le_refl _) _⟩
theorem storeWord_any (E:Env) (ov:Value) (S:Ms) (a v:Int) (w:World) (h:Mc E ov S w) (ha:U16 a) (hv:U16 v):
  Calls Tryz.prog 140 #[.pointer (some ⟨E.b,0,none⟩),.int .u16 a,.int .u16 v] w fun e w'=>Post E ov S w (stW S a v) e w':=by
 have H:=Lib.hid h
 obtain⟨a0,a1⟩:=ha
 obtain⟨v0,v1⟩:=hv
 have HW:=Lib.hid (IntKind.wrap_u16 (a+1))
 have hW:IntKind.u16.wrap (a+1)=nx a:=IntKind.wrap_u16 (a+1)
 have hn0:0≤nx a:=by unfold nx;omega
 have hn1:nx a < 65536:=by unfold nx;omega
 have hR:stW S a v=if ramB a=true then(if ramB (nx a)=true then .ok { S with ram:=upd (upd S.ram (a - 16384).toNat (v%256)) (nx a - 16384).toNat (v/256) } else .tr 2 (nx a)) else .tr 2 a:=rfl
 obtain⟨r,hr⟩:∃ r,stW S a v=r:=⟨_,rfl⟩
 obtain⟨x,hx⟩:∃ x,nx a=x:=⟨_,rfl⟩
 rw[hr,hx] at hR
 rw[hx] at hW hn0 hn1
 rw[hr]
 have HR:=Lib.hid hR
 clear h hr hx hR
 have hd:(v/256)%256=v/256:=by omega
 by_cases s1:ramB a=true
 ·by_cases s2:ramB x=true
  ·have HR':=Lib.hid (HR.out.trans ((if_pos s1).trans (if_pos s2)))
   go_enter Tryz.func140,Tryz.ntmps140
   go_wp2_with fail
   refine(demandRam_ok a _ s1).mono ?_
   rintro e w1 ⟨rfl,rfl⟩
   go_wp2_with fail
   refine(demandRam_ok x _ s2).mono ?_
   rintro e w1 ⟨rfl,rfl⟩
   go_wp2_with fail
   refine(storeByte_ok E ov S a (v%256) _ H.out s1 (by omega) (by omega)).mono ?_
   rintro e w1 ⟨rfl,hm,hg⟩
   have HM:=Lib.hid hm
   have HG:=Lib.hid hg
   clear hm hg
   go_wp2_with fail
   refine(storeByte_ok E ov _ x (v/256) _ HM.out s2 (by omega) (by omega)).mono ?_
   rintro e w2 ⟨rfl,hm,hg⟩
   have HM2:=Lib.hid hm
   have HG2:=Lib.hid hg
   clear hm hg
   go_wp2_with fail
   go_end0
   exact Post.okk HR'.out rfl HM2.out (gb_trans HG.out HG2.out)
  ·have HR':=Lib.hid (HR.out.trans ((if_pos s1).trans (if_neg s2)))
   go_enter Tryz.func140,Tryz.ntmps140
   go_wp2_with fail
   refine(demandRam_ok a _ s1).mono ?_
   rintro e w1 ⟨rfl,rfl⟩
   go_wp2_with fail
   refine(demandRam_no x _ (by simpa using s2)).mono ?_
   rintro e w1 ⟨rfl,rfl⟩
   go_wp2_with fail
   exact⟨rfl,Post.trr HR'.out rfl H.out (Kp.refl S) (gb_refl _ _)⟩
 ·have HR':=Lib.hid (HR.out.trans (if_neg s1))
  go_enter Tryz.func140,Tryz.ntmps140
  go_wp2_with fail
  refine(demandRam_no a _ (by simpa using s1)).mono ?_
  rintro e w1 ⟨rfl,rfl⟩
  go_wp2_with fail
  exact⟨rfl,Post.trr HR'.out rfl H.out (Kp.refl S) (gb_refl _ _)⟩
structure InD (i:Ins):Prop where
 ok:i.Ok
 d0:0≤i.d
 d1:i.d < 8
 s0:0≤i.s
 s1:i.s < 8
 b0:0≤i.bk
 b1:i.bk < 256
theorem accessed_any (E:Env) (ov:Value) (S:Ms) (i:Ins) (w:World) (h:Mc E ov S w) (hi:InD i):
  Calls Tryz.prog 137 #[.pointer (some ⟨E.b,0,none⟩),.agg #[.int .i64 i.op,.int .i64 i.d,.int .i64 i.s,.int .u16 i.im,.int .u16 i.ax,.int .i64 i.bk,.int .i64 i.sz]] w fun e w'=>e= .returned (.int .u16 (atP S i))∧Below w.heap.size w w':=by
 have HP:=Lib.hid (show atP S i=if 84≤i.op∧i.op≤87 then i.im else(S.r i.s.toNat+i.im)%65536 from rfl)
 obtain⟨k,hk,hk2⟩:∃ k:Nat,i.s=k∧k < 8:=⟨i.s.toNat,by have:=hi.s0;omega,by have:=hi.s1;have:=hi.s0;omega⟩
 obtain⟨r0,r1⟩:=h.ok.r k hk2
 have m0:=hi.ok.m0;have m1:=hi.ok.m1
 obtain⟨op,d,s,im,ax,bk,sz⟩:=i
 simp only at hk HP m0 m1 ⊢
 subst hk
 have HB:=Lib.hid ((Below.refl _ w).alloc (Nat.le_refl _) (.cells #[.int .i64 op,.int .i64 d,.int .i64 k,.int .u16 im,.int .u16 ax,.int .i64 bk,.int .i64 sz] 58))
 have ck:=(h.alloc (.cells #[.int .i64 op,.int .i64 d,.int .i64 k,.int .u16 im,.int .u16 ax,.int .i64 bk,.int .i64 sz] 58)).cR k hk2
 have ck0:=h.cR k hk2
 have hn:=heap_alloc_new w (.cells #[.int .i64 op,.int .i64 d,.int .i64 k,.int .u16 im,.int .u16 ax,.int .i64 bk,.int .i64 sz] 58)
 have n0:=block_cells hn 0 _ rfl
 have n2:=block_cells hn 2 _ rfl
 have n3:=block_cells hn 3 _ rfl
 have hlt:=h.lt
 have hne:E.b≠w.heap.size:=by omega
 rw[show((k:Int)).toNat=k by omega] at HP
 obtain⟨v,hv⟩:∃ v,S.r k=v:=⟨_,rfl⟩
 rw[hv] at HP r0 r1 ck ck0
 clear h hi hn hv
 by_cases q:84≤op
 ·by_cases q':op≤87
  ·go_enter Tryz.func137,Tryz.ntmps137
   go_wp2_with fail
   go_ret
   exact⟨ret1 (by rw[HP.out,if_pos ⟨q,q'⟩]),HB.out⟩
  ·go_enter Tryz.func137,Tryz.ntmps137
   go_wp2_with fail
   go_region
   go_wp2_with fail
   go_ret
   exact⟨ret1 (by rw[HP.out,if_neg (by omega)];exact IntKind.wrap_u16 _),HB.out.drew⟩
 ·go_enter Tryz.func137,Tryz.ntmps137
  go_wp2_with fail
  go_region
  go_wp2_with fail
  go_ret
  exact⟨ret1 (by rw[HP.out,if_neg (by omega)];exact IntKind.wrap_u16 _),HB.out.drew⟩
def PV (r:Bool) (v a:Int) (e:Ending):Prop:=if r=true then e= .returned (.int .u8 v) else e= .panicked (trapE 2 a)
theorem PV.y {v a:Int} {e:Ending} (h:e= .returned (.int .u8 v)):PV true v a e:=by unfold PV;rw[if_pos rfl];exact h
theorem PV.n {v a:Int} {e:Ending} (h:e= .panicked (trapE 2 a)):PV false v a e:=by unfold PV;rw[if_neg (by decide)];exact h
theorem PV.yes {r:Bool} {v a:Int} {e:Ending} (hr:r=true) (h:PV r v a e):e= .returned (.int .u8 v):=by subst hr;exact h
theorem PV.no {r:Bool} {v a:Int} {e:Ending} (hr:r=false) (h:PV r v a e):e= .panicked (trapE 2 a):=by subst hr;exact h
theorem Mc.has {E:Env} {ov:Value} {S:Ms} {w:World} (h:Mc E ov S w):Has w E.P E.I:=h.env.has.below h.bel
theorem Mc.tab {E:Env} {ov:Value} {S:Ms} {w:World} (h:Mc E ov S w):TabF w:=tabF_below h.env.pos h.env.tab h.bel
theorem Mc.pos {E:Env} {ov:Value} {S:Ms} {w:World} (h:Mc E ov S w):0 < w.heap.size:=by have:=h.env.pos;have:=h.bel.size;omega
theorem Mc.cBk {E:Env} {ov:Value} {S:Ms} {w:World} (h:Mc E ov S w):w.cell? ⟨E.b,0,none⟩=some (.slice E.P.p0 E.I.banks.length E.P.c0):=h.hd 0 _ (by decide) rfl
theorem constant_any (E:Env) (ov:Value) (S:Ms) (bn a:Int) (w:World) (h:Mc E ov S w) (b0:0≤bn) (b1:bn < 256) (a0:0≤a) (a1:a < 65536):
  Calls Tryz.prog 143 #[.pointer (some ⟨E.b,0,none⟩),.int .i64 bn,.int .u16 a] w fun e w'=>PV (romB E.I bn a) (romV E.I bn a) a e∧w=w':=by
 obtain⟨k,rfl⟩:∃ k:Nat,bn=k:=⟨bn.toNat,by omega⟩
 obtain⟨m,rfl⟩:∃ m:Nat,a=m:=⟨a.toNat,by omega⟩
 have HB:=h.cBk
 have hh:=h.has
 have hz:=h.env.I.n0
 have hbs:=h.env.I.bs
 have hrom:romB E.I (k:Int) (m:Int)=(decide ((m:Int) < 4096) && decide ((k:Int) < E.I.banks.length) && decide ((m:Int) < (bk E.I.banks k).size)):=rfl
 have hval:romV E.I (k:Int) (m:Int)=ba (bk E.I.banks k) m:=rfl
 obtain⟨r,hr⟩:∃ r,romB E.I (k:Int) (m:Int)=r:=⟨_,rfl⟩
 obtain⟨v,hv⟩:∃ v,romV E.I (k:Int) (m:Int)=v:=⟨_,rfl⟩
 rw[hr] at hrom ⊢
 rw[hv] at hval ⊢
 clear hr hv
 by_cases q1:(m:Int) < 4096
 ·by_cases q2:k < E.I.banks.length
  ·obtain⟨g,hg,hc⟩:=hh.s0.bank (bk_at q2)
   have hsm:=hbs _ (bk_mem q2)
   obtain⟨s,hs⟩:∃ s,bk E.I.banks k=s:=⟨_,rfl⟩
   rw[hs] at hrom hval hc hsm
   rw[hg] at HB
   have HH:=Lib.hid h
   have q2':(k:Int) < (E.I.banks.length:Int):=by omega
   unfold maxLen at hsm
   have hz1:=Lib.hid hz
   clear h hh hbs hg hs hz
   by_cases q3:m < s.size
   ·have hR:r=true:=by rw[hrom];simp;omega
    subst hR
    have HV:=Lib.hid hval
    have HA:=Lib.hid (ba_at s m q3)
    have HD:=ba_bd s m
    have q3':(m:Int) < (s.size:Int):=by omega
    clear hrom hval
    go_enter Tryz.func143,Tryz.ntmps143
    go_wp2_with fail
    refine(demand_ok _ _ _).mono ?_
    rintro e w' ⟨rfl,rfl⟩
    go_wp2_with fail
    go_ret
    exact⟨PV.y (ret1 (by rw[HV.out,← HA.out])),rfl⟩
   ·have hR:r=false:=by rw[hrom];simp;omega
    subst hR
    have q3':¬ (m:Int) < (s.size:Int):=by omega
    clear hrom hval
    go_enter Tryz.func143,Tryz.ntmps143
    go_wp2_with fail
    refine(demand_no _ _ _).mono ?_
    rintro e w' ⟨rfl,rfl⟩
    go_wp2_with fail
    exact⟨rfl,PV.n rfl,rfl⟩
  ·have hR:r=false:=by rw[hrom];simp;omega
   subst hR
   have q2':¬ (k:Int) < (E.I.banks.length:Int):=by omega
   clear hrom hval hh h hbs
   go_enter Tryz.func143,Tryz.ntmps143
   go_wp2_with fail
   refine(demand_no _ _ _).mono ?_
   rintro e w' ⟨rfl,rfl⟩
   go_wp2_with fail
   exact⟨rfl,PV.n rfl,rfl⟩
 ·have hR:r=false:=by rw[hrom];simp;omega
  subst hR
  clear hrom hval hh h hbs
  go_enter Tryz.func143,Tryz.ntmps143
  go_wp2_with fail
  refine(demand_no _ _ _).mono ?_
  rintro e w' ⟨rfl,rfl⟩
  go_wp2_with fail
  exact⟨rfl,PV.n rfl,rfl⟩
theorem cbB_bank {I:Im} {S:Ms} {a:Int} (h:cbB I S a=true):0≤plB S a∧plB S a < I.banks.length∧a%4096 < (bk I.banks (plB S a).toNat).size:=offB_parts h
theorem Mc.cI {E:Env} {ov:Value} {S:Ms} {w:World} (h:Mc E ov S w):w.cell? ⟨E.b,0,none⟩=some (.slice E.P.p0 E.I.banks.length E.P.c0)∧w.cell? ⟨E.b,1,none⟩=some (.int .u16 E.I.en)∧w.cell? ⟨E.b,2,none⟩=some (.int .u16 E.I.ve)∧
  w.cell? ⟨E.b,3,none⟩=some (.slice E.P.p1 E.I.data.length E.P.c1)∧w.cell? ⟨E.b,4,none⟩=some (.slice E.P.p2 E.I.rel.length E.P.c2):=
 ⟨h.hd 0 _ (by decide) rfl,h.hd 1 _ (by decide) rfl,h.hd 2 _ (by decide) rfl,h.hd 3 _ (by decide) rfl,h.hd 4 _ (by decide) rfl⟩
theorem codeByte_any (E:Env) (ov:Value) (S:Ms) (a:Int) (w:World) (h:Mc E ov S w) (ha:U16 a):
  Calls Tryz.prog 163 #[.pointer (some ⟨E.b,0,none⟩),.int .u16 a] w fun e w'=>PV (cbB E.I S a) (cbV E.I S a) a e∧Below w.heap.size w w':=by
 have H:=Lib.hid h
 have hS1:=Lib.hid h.cI
 have hS2:=Lib.hid h.drew.cI
 have HP:=Lib.hid (fun W (hw:Mc E ov S W)=>placeOf_any E ov S a W hw ha)
 have HO:=Lib.hid (fun W (hw:Mc E ov S W)=>off_any E.P E.I (plB S a) a W h.env.I hw.has ha.1 ha.2)
 obtain⟨a0,a1⟩:=ha
 have hb:=Lib.hid (cbB_bank (I:=E.I) (S:=S) (a:=a))
 have hval:Hid (cbV E.I S a=ba (bk E.I.banks (plB S a).toNat) (a%4096).toNat):=Lib.hid rfl
 rw[show offB E.I (plB S a) a=cbB E.I S a from rfl] at HO
 obtain⟨r,hr⟩:∃ r,cbB E.I S a=r:=⟨_,rfl⟩
 obtain⟨v,hv⟩:∃ v,cbV E.I S a=v:=⟨_,rfl⟩
 obtain⟨p,hp⟩:∃ p,plB S a=p:=⟨_,rfl⟩
 obtain⟨x,hx⟩:∃ x,a%4096=x:=⟨_,rfl⟩
 rw[hr] at hb HO ⊢
 rw[hv] at hval ⊢
 rw[hp] at hb hval HO HP
 rw[hx] at hb hval HO
 have x0:0≤x:=by omega
 unfold imV at HO
 have HHas:=Lib.hid h.has
 have HOk:=Lib.hid h.env.I
 clear h hr hv hp hx
 cases r
 ·have e0:offI false p=0:=rfl
  have e1:offI false x=0:=rfl
  rw[e0,e1] at HO
  go_enter Tryz.func163,Tryz.ntmps163
  go_wp2_with fail
  go_region_held3 (fun w'=>w'.cell? ⟨E.b,0,none⟩=some (.slice E.P.p0 E.I.banks.length E.P.c0)∧w'.cell? ⟨E.b,1,none⟩=some (.int .u16 E.I.en)∧w'.cell? ⟨E.b,2,none⟩=some (.int .u16 E.I.ve)∧w'.cell? ⟨E.b,3,none⟩=some (.slice E.P.p1 E.I.data.length E.P.c1)∧w'.cell? ⟨E.b,4,none⟩=some (.slice E.P.p2 E.I.rel.length E.P.c2))
   (first | with_reducible exact hS1.out | with_reducible exact hS2.out | with_reducible exact hs3.out | with_reducible exact hs4.out)
   (first
    | (go_at_call 104;(with_reducible refine(HP.out _ H.out.drew).mono ?_);rintro e w1 ⟨rfl,hb1⟩;have HM1:=Lib.hid (H.out.drew.kept hb1);have hs3:=Lib.hid (H.out.drew.kept hb1).cI;have HB1:=Lib.hid ((Below.refl _ w).drew.trans hb1);clear hb1)
    | (go_at_call 134;(with_reducible refine(HO.out _ HM1.out).mono ?_);rintro e w2 ⟨rfl,hb2⟩;have HM2:=Lib.hid (HM1.out.kept hb2);have hs4:=Lib.hid (HM1.out.kept hb2).cI;have HB2:=Lib.hid (HB1.out.trans (hb2.mono HB1.out.size));clear hb2))
  all_goals
   go_wp2_with fail
   refine(demand_no _ _ _).mono ?_
   rintro e w3 ⟨rfl,rfl⟩
   go_wp2_with fail
   exact⟨rfl,PV.n rfl,HB2.out⟩
 ·obtain⟨q0,q1,q2⟩:=hb.out rfl
  have e0:offI true p=p:=rfl
  have e1:offI true x=x:=rfl
  rw[e0,e1] at HO
  obtain⟨k,rfl⟩:∃ k:Nat,p=k:=⟨p.toNat,by omega⟩
  obtain⟨m,rfl⟩:∃ m:Nat,x=m:=⟨x.toNat,by omega⟩
  have q1':k < E.I.banks.length:=by omega
  obtain⟨g,hg,hc⟩:=HHas.out.s0.bank (bk_at q1')
  have hsm:=HOk.out.bs _ (bk_mem q1')
  rw[show(((k:Nat):Int)).toNat=k by omega] at hval q2
  rw[show(((m:Nat):Int)).toNat=m by omega] at hval
  obtain⟨s,hs⟩:∃ s,bk E.I.banks k=s:=⟨_,rfl⟩
  have HG:=Lib.hid (fun W (hw:Mc E ov S W)=>hw.has.s0.bank (bk_at q1'))
  rw[hs] at hval hc hsm q2 HG
  rw[hg] at hS1 hS2
  have HPg:=Lib.hid hg
  unfold maxLen at hsm
  have HV:=Lib.hid hval
  have HA:=Lib.hid (ba_at s m (by omega))
  have HD:=ba_bd s m
  clear hg hs hc hval hb
  go_enter Tryz.func163,Tryz.ntmps163
  go_wp2_with fail
  go_region_held3 (fun w'=>w'.cell? ⟨E.b,0,none⟩=some (.slice (some ⟨g,0,none⟩) E.I.banks.length E.P.c0)∧w'.cell? ⟨E.b,1,none⟩=some (.int .u16 E.I.en)∧w'.cell? ⟨E.b,2,none⟩=some (.int .u16 E.I.ve)∧w'.cell? ⟨E.b,3,none⟩=some (.slice E.P.p1 E.I.data.length E.P.c1)∧w'.cell? ⟨E.b,4,none⟩=some (.slice E.P.p2 E.I.rel.length E.P.c2))
   (first | with_reducible exact hS1.out | with_reducible exact hS2.out | with_reducible exact hs3.out | with_reducible exact hs4.out)
   (first
    | (go_at_call 104;(with_reducible refine(HP.out _ H.out.drew).mono ?_);rintro e w1 ⟨rfl,hb1⟩;have HM1:=Lib.hid (H.out.drew.kept hb1);have hs3:=Lib.hid (HPg.out▸(H.out.drew.kept hb1).cI);have HB1:=Lib.hid ((Below.refl _ w).drew.trans hb1);clear hb1)
    | (go_at_call 134;(rw[← HPg.out]);(with_reducible refine(HO.out _ HM1.out).mono ?_);rintro e w2 ⟨rfl,hb2⟩;have HM2:=Lib.hid (HM1.out.kept hb2);have hs4:=Lib.hid (HPg.out▸(HM1.out.kept hb2).cI);have HB2:=Lib.hid (HB1.out.trans (hb2.mono HB1.out.size));clear hb2))
  all_goals
   go_wp2_with fail
   refine(demand_ok _ _ _).mono ?_
   rintro e w3 ⟨rfl,rfl⟩
   obtain⟨c0,c1,c2,c3,c4⟩:=hs4.out
   obtain⟨g',hg',hc'⟩:=HG.out _ HM2.out
   obtain rfl:g'=g:=by have:=HPg.out.symm.trans hg';simpa using this.symm
   have q1i:(k:Int) < (E.I.banks.length:Int):=by omega
   have hfz:=HM2.out.frz
   clear hg' c1 c2 c3 c4
   go_wp2_with fail
   go_ret
   exact⟨PV.y (ret1 (by rw[HV.out,← HA.out])),HB2.out⟩
def VP (v:Vl) (e:Ending):Prop:=match v with | .ok x=>e= .returned (.int .u16 x) | .tr k i=>e= .panicked (trapE k i)
theorem VP.y {v:Vl} {x:Int} {e:Ending} (hv:v= .ok x) (h:e= .returned (.int .u16 x)):VP v e:=by subst hv;exact h
theorem VP.n {v:Vl} {k i:Int} {e:Ending} (hv:v= .tr k i) (h:e= .panicked (trapE k i)):VP v e:=by subst hv;exact h
theorem nx_bd (a:Int):U16 (nx a):=u16m _
theorem wdP_eq (ok:Int→Bool) (val:Int→Int) (a:Int):wdP ok val a=if ok a=true then(if ok (nx a)=true then .ok (val a+256*val (nx a)) else .tr 2 (nx a)) else .tr 2 a:=rfl
theorem romByte_any (E:Env) (ov:Value) (S:Ms) (bn a:Int) (p q:Nat) (w:World) (h:Mc E ov S w) (b0:0≤bn) (b1:bn < 256) (ha:U16 a)
  (hp:w.cell? ⟨p,0,none⟩=some (.pointer (some ⟨E.b,0,none⟩))) (hq:w.cell? ⟨q,5,none⟩=some (.int .i64 bn)):
  Calls Tryz.prog 142 #[.int .u16 a,.pointer (some ⟨p,0,none⟩),.pointer (some ⟨q,0,none⟩)] w fun e w'=>PV (romB E.I bn a) (romV E.I bn a) a e∧w=w':=by
 have HC:=Lib.hid (constant_any E ov S bn a w h b0 b1 ha.1 ha.2)
 obtain⟨r,hr⟩:∃ r,romB E.I bn a=r:=⟨_,rfl⟩
 obtain⟨v,hv⟩:∃ v,romV E.I bn a=v:=⟨_,rfl⟩
 rw[hr,hv] at HC ⊢
 clear hr hv h b0 b1 ha
 cases r
 ·go_enter Tryz.func142,Tryz.ntmps142
  go_wp2_with fail
  refine HC.out.mono ?_
  rintro e w1 ⟨he,rfl⟩
  obtain rfl:=PV.no rfl he
  go_wp2_with fail
  exact⟨rfl,PV.n rfl,rfl⟩
 ·go_enter Tryz.func142,Tryz.ntmps142
  go_wp2_with fail
  refine HC.out.mono ?_
  rintro e w1 ⟨he,rfl⟩
  obtain rfl:=PV.yes rfl he
  go_wp2_with fail
  go_ret
  exact⟨PV.y rfl,rfl⟩
theorem romV_bd (I:Im) (b a:Int):0≤romV I b a∧romV I b a < 256:=ba_bd _ _
theorem cbV_bd (I:Im) (S:Ms) (a:Int):0≤cbV I S a∧cbV I S a < 256:=ba_bd _ _
theorem ramV_bd {S:Ms} (h:S.Ok) {a:Int} (ha:ramB a=true):0≤ramV S a∧ramV S a < 256:=by
 unfold ramB at ha;simp at ha
 exact h.ram _ (by omega)
theorem ramByte_is (E:Env) (ov:Value) (S:Ms) (a:Int) (w:World) (h:Mc E ov S w):
  Calls Tryz.prog 139 #[.pointer (some ⟨E.b,0,none⟩),.int .u16 a] w fun e w'=>PV (ramB a) (ramV S a) a e∧Below w.heap.size w w':=by
 by_cases q:ramB a=true
 ·rw[q]
  exact(ramByte_ok E ov S a w h q).mono fun e w' h=>⟨PV.y h.1,h.2▸Below.refl _ _⟩
 ·have q':ramB a=false:=by simpa using q
  rw[q']
  exact(ramByte_no E a w q').mono fun e w' h=>⟨PV.n h.1,h.2▸Below.refl _ _⟩
theorem wordRam_any (E:Env) (ov:Value) (S:Ms) (a:Int) (w:World) (h:Mc E ov S w) (ha:U16 a):
  Calls Tryz.prog 138 #[.int .u16 a,.func (.func 139) #[.pointer (some ⟨E.b,0,none⟩)] #[]] w fun e w'=>VP (wdP (ramB) (ramV S) a) e∧Below w.heap.size w w':=by
 have HC:=Lib.hid (fun W (x:Int) (hx:U16 x) (hb:Below w.heap.size w W)=>ramByte_is E ov S x W (h.kept hb))
 have HE:=Lib.hid (wdP_eq (ramB) (ramV S) a)
 have hnb:=nx_bd a
 have hW:IntKind.u16.wrap (a+1)=nx a:=IntKind.wrap_u16 (a+1)
 have HB1:=Lib.hid (fun (hy:ramB a=true)=>ramV_bd h.ok hy)
 have HB2:=Lib.hid (fun (hy:ramB (nx a)=true)=>ramV_bd h.ok hy)
 obtain⟨V,hV⟩:∃ V,wdP (ramB) (ramV S) a=V:=⟨_,rfl⟩
 rw[hV] at HE ⊢
 obtain⟨f,hf⟩:∃ f,(ramB)=f:=⟨_,rfl⟩
 obtain⟨g,hg⟩:∃ g,(ramV S)=g:=⟨_,rfl⟩
 rw[hf,hg] at HC HE
 rw[hg] at HB1 HB2
 rw[hf] at HB1 HB2
 obtain⟨x,hx⟩:∃ x,nx a=x:=⟨_,rfl⟩
 rw[hx] at hnb hW HE HB2
 have HN:=Lib.hid hnb
 have HA:=Lib.hid ha
 obtain⟨a0,a1⟩:=ha
 obtain⟨n0,n1⟩:=hnb
 clear hV hf hg hx h
 by_cases q1:f a=true
 ·have HB:=HB1.out q1
  by_cases q2:f x=true
  ·have hE:=Lib.hid (HE.out.trans ((if_pos q1).trans (if_pos q2)))
   have HBx:=HB2.out q2
   have ho:=or_shift _ _ HB.1 HB.2 HBx.1 HBx.2
   go_enter Tryz.func138,Tryz.ntmps138
   go_wp2_with fail
   refine(HC.out _ a HA.out (Below.refl _ _)).mono ?_
   rintro e w1 ⟨he,hb1⟩
   obtain rfl:=PV.yes q1 he
   have HB1':=Lib.hid hb1
   clear hb1 he
   go_wp2_with fail
   refine(HC.out _ x HN.out HB1'.out).mono ?_
   rintro e w2 ⟨he,hb2⟩
   obtain rfl:=PV.yes q2 he
   have HB2':=Lib.hid (HB1'.out.trans (hb2.mono HB1'.out.size))
   clear hb2 he
   go_wp2_with fail
   go_ret
   exact⟨VP.y hE.out rfl,HB2'.out⟩
  ·have hE:=Lib.hid (HE.out.trans ((if_pos q1).trans (if_neg q2)))
   go_enter Tryz.func138,Tryz.ntmps138
   go_wp2_with fail
   refine(HC.out _ a HA.out (Below.refl _ _)).mono ?_
   rintro e w1 ⟨he,hb1⟩
   obtain rfl:=PV.yes q1 he
   have HB1':=Lib.hid hb1
   clear hb1 he
   go_wp2_with fail
   refine(HC.out _ x HN.out HB1'.out).mono ?_
   rintro e w2 ⟨he,hb2⟩
   obtain rfl:=PV.no (by simpa using q2) he
   have HB2':=Lib.hid (HB1'.out.trans (hb2.mono HB1'.out.size))
   clear hb2 he
   go_wp2_with fail
   exact⟨rfl,VP.n hE.out rfl,HB2'.out⟩
 ·have hE:=Lib.hid (HE.out.trans (if_neg q1))
  go_enter Tryz.func138,Tryz.ntmps138
  go_wp2_with fail
  refine(HC.out _ a HA.out (Below.refl _ _)).mono ?_
  rintro e w1 ⟨he,hb1⟩
  obtain rfl:=PV.no (by simpa using q1) he
  have HB1':=Lib.hid hb1
  clear hb1 he
  go_wp2_with fail
  exact⟨rfl,VP.n hE.out rfl,HB1'.out⟩
theorem wordCode_any (E:Env) (ov:Value) (S:Ms) (a:Int) (w:World) (h:Mc E ov S w) (ha:U16 a):
  Calls Tryz.prog 138 #[.int .u16 a,.func (.func 163) #[.pointer (some ⟨E.b,0,none⟩)] #[]] w fun e w'=>VP (wdP (cbB E.I S) (cbV E.I S) a) e∧Below w.heap.size w w':=by
 have HC:=Lib.hid (fun W (x:Int) (hx:U16 x) (hb:Below w.heap.size w W)=>codeByte_any E ov S x W (h.kept hb) hx)
 have HE:=Lib.hid (wdP_eq (cbB E.I S) (cbV E.I S) a)
 have hnb:=nx_bd a
 have hW:IntKind.u16.wrap (a+1)=nx a:=IntKind.wrap_u16 (a+1)
 have HB1:=Lib.hid (fun (hy:cbB E.I S a=true)=>cbV_bd E.I S a)
 have HB2:=Lib.hid (fun (hy:cbB E.I S (nx a)=true)=>cbV_bd E.I S (nx a))
 obtain⟨V,hV⟩:∃ V,wdP (cbB E.I S) (cbV E.I S) a=V:=⟨_,rfl⟩
 rw[hV] at HE ⊢
 obtain⟨f,hf⟩:∃ f,(cbB E.I S)=f:=⟨_,rfl⟩
 obtain⟨g,hg⟩:∃ g,(cbV E.I S)=g:=⟨_,rfl⟩
 rw[hf,hg] at HC HE
 rw[hg] at HB1 HB2
 rw[hf] at HB1 HB2
 obtain⟨x,hx⟩:∃ x,nx a=x:=⟨_,rfl⟩
 rw[hx] at hnb hW HE HB2
 have HN:=Lib.hid hnb
 have HA:=Lib.hid ha
 obtain⟨a0,a1⟩:=ha
 obtain⟨n0,n1⟩:=hnb
 clear hV hf hg hx h
 by_cases q1:f a=true
 ·have HB:=HB1.out q1
  by_cases q2:f x=true
  ·have hE:=Lib.hid (HE.out.trans ((if_pos q1).trans (if_pos q2)))
   have HBx:=HB2.out q2
   have ho:=or_shift _ _ HB.1 HB.2 HBx.1 HBx.2
   go_enter Tryz.func138,Tryz.ntmps138
   go_wp2_with fail
   refine(HC.out _ a HA.out (Below.refl _ _)).mono ?_
   rintro e w1 ⟨he,hb1⟩
   obtain rfl:=PV.yes q1 he
   have HB1':=Lib.hid hb1
   clear hb1 he
   go_wp2_with fail
   refine(HC.out _ x HN.out HB1'.out).mono ?_
   rintro e w2 ⟨he,hb2⟩
   obtain rfl:=PV.yes q2 he
   have HB2':=Lib.hid (HB1'.out.trans (hb2.mono HB1'.out.size))
   clear hb2 he
   go_wp2_with fail
   go_ret
   exact⟨VP.y hE.out rfl,HB2'.out⟩
  ·have hE:=Lib.hid (HE.out.trans ((if_pos q1).trans (if_neg q2)))
   go_enter Tryz.func138,Tryz.ntmps138
   go_wp2_with fail
   refine(HC.out _ a HA.out (Below.refl _ _)).mono ?_
   rintro e w1 ⟨he,hb1⟩
   obtain rfl:=PV.yes q1 he
   have HB1':=Lib.hid hb1
   clear hb1 he
   go_wp2_with fail
   refine(HC.out _ x HN.out HB1'.out).mono ?_
   rintro e w2 ⟨he,hb2⟩
   obtain rfl:=PV.no (by simpa using q2) he
   have HB2':=Lib.hid (HB1'.out.trans (hb2.mono HB1'.out.size))
   clear hb2 he
   go_wp2_with fail
   exact⟨rfl,VP.n hE.out rfl,HB2'.out⟩
 ·have hE:=Lib.hid (HE.out.trans (if_neg q1))
  go_enter Tryz.func138,Tryz.ntmps138
  go_wp2_with fail
  refine(HC.out _ a HA.out (Below.refl _ _)).mono ?_
  rintro e w1 ⟨he,hb1⟩
  obtain rfl:=PV.no (by simpa using q1) he
  have HB1':=Lib.hid hb1
  clear hb1 he
  go_wp2_with fail
  exact⟨rfl,VP.n hE.out rfl,HB1'.out⟩
theorem wordRom_any (E:Env) (ov:Value) (S:Ms) (a:Int) (bn:Int) (p q:Nat) (w:World) (h:Mc E ov S w) (ha:U16 a) (b0:0≤bn) (b1:bn < 256) (hp:w.cell? ⟨p,0,none⟩=some (.pointer (some ⟨E.b,0,none⟩))) (hq:w.cell? ⟨q,5,none⟩=some (.int .i64 bn)):
  Calls Tryz.prog 138 #[.int .u16 a,.func (.func 142) #[] #[.pointer (some ⟨p,0,none⟩),.pointer (some ⟨q,0,none⟩)]] w fun e w'=>VP (wdP (romB E.I bn) (romV E.I bn) a) e∧Below w.heap.size w w':=by
 have HC:=Lib.hid (fun W (x:Int) (hx:U16 x) (hb:Below w.heap.size w W)=>(romByte_any E ov S bn x p q W (h.kept hb) b0 b1 hx ((hb.cell (p:=⟨p,0,none⟩) (World.block_lt_of_cell? _ _ hp)).trans hp) ((hb.cell (p:=⟨q,5,none⟩) (World.block_lt_of_cell? _ _ hq)).trans hq)).mono fun e w' h=>(⟨h.1,h.2▸Below.refl _ _⟩:PV (romB E.I bn x) (romV E.I bn x) x e∧Below W.heap.size W w'))
 have HE:=Lib.hid (wdP_eq (romB E.I bn) (romV E.I bn) a)
 have hnb:=nx_bd a
 have hW:IntKind.u16.wrap (a+1)=nx a:=IntKind.wrap_u16 (a+1)
 have HB1:=Lib.hid (fun (hy:romB E.I bn a=true)=>romV_bd E.I bn a)
 have HB2:=Lib.hid (fun (hy:romB E.I bn (nx a)=true)=>romV_bd E.I bn (nx a))
 obtain⟨V,hV⟩:∃ V,wdP (romB E.I bn) (romV E.I bn) a=V:=⟨_,rfl⟩
 rw[hV] at HE ⊢
 obtain⟨f,hf⟩:∃ f,(romB E.I bn)=f:=⟨_,rfl⟩
 obtain⟨g,hg⟩:∃ g,(romV E.I bn)=g:=⟨_,rfl⟩
 rw[hf,hg] at HC HE
 rw[hg] at HB1 HB2
 rw[hf] at HB1 HB2
 obtain⟨x,hx⟩:∃ x,nx a=x:=⟨_,rfl⟩
 rw[hx] at hnb hW HE HB2
 have HN:=Lib.hid hnb
 have HA:=Lib.hid ha
 obtain⟨a0,a1⟩:=ha
 obtain⟨n0,n1⟩:=hnb
 clear hV hf hg hx h hp hq b0 b1
 by_cases q1:f a=true
 ·have HB:=HB1.out q1
  by_cases q2:f x=true
  ·have hE:=Lib.hid (HE.out.trans ((if_pos q1).trans (if_pos q2)))
   have HBx:=HB2.out q2
   have ho:=or_shift _ _ HB.1 HB.2 HBx.1 HBx.2
   go_enter Tryz.func138,Tryz.ntmps138
   go_wp2_with fail
   refine(HC.out _ a HA.out (Below.refl _ _)).mono ?_
   rintro e w1 ⟨he,hb1⟩
   obtain rfl:=PV.yes q1 he
   have HB1':=Lib.hid hb1
   clear hb1 he
   go_wp2_with fail
   refine(HC.out _ x HN.out HB1'.out).mono ?_
   rintro e w2 ⟨he,hb2⟩
   obtain rfl:=PV.yes q2 he
   have HB2':=Lib.hid (HB1'.out.trans (hb2.mono HB1'.out.size))
   clear hb2 he
   go_wp2_with fail
   go_ret
   exact⟨VP.y hE.out rfl,HB2'.out⟩
  ·have hE:=Lib.hid (HE.out.trans ((if_pos q1).trans (if_neg q2)))
   go_enter Tryz.func138,Tryz.ntmps138
   go_wp2_with fail
   refine(HC.out _ a HA.out (Below.refl _ _)).mono ?_
   rintro e w1 ⟨he,hb1⟩
   obtain rfl:=PV.yes q1 he
   have HB1':=Lib.hid hb1
   clear hb1 he
   go_wp2_with fail
   refine(HC.out _ x HN.out HB1'.out).mono ?_
   rintro e w2 ⟨he,hb2⟩
   obtain rfl:=PV.no (by simpa using q2) he
   have HB2':=Lib.hid (HB1'.out.trans (hb2.mono HB1'.out.size))
   clear hb2 he
   go_wp2_with fail
   exact⟨rfl,VP.n hE.out rfl,HB2'.out⟩
 ·have hE:=Lib.hid (HE.out.trans (if_neg q1))
  go_enter Tryz.func138,Tryz.ntmps138
  go_wp2_with fail
  refine(HC.out _ a HA.out (Below.refl _ _)).mono ?_
  rintro e w1 ⟨he,hb1⟩
  obtain rfl:=PV.no (by simpa using q1) he
  have HB1':=Lib.hid hb1
  clear hb1 he
  go_wp2_with fail
  exact⟨rfl,VP.n hE.out rfl,HB1'.out⟩
theorem goByTable_any (E:Env) (ov:Value) (S:Ms) (t n:Int) (w:World) (h:Mc E ov S w) (ht:U16 t) (hn:U16 n):
  Calls Tryz.prog 149 #[.pointer (some ⟨E.b,0,none⟩),.int .u16 t,.int .u16 n] w fun e w'=>Post E ov S w (tabP E.I S t n) e w':=by
 have H:=Lib.hid h
 have hw1:IntKind.u16.wrap (2*n)=2*n%65536:=IntKind.wrap_u16 _
 have hw2:IntKind.u16.wrap (t+2*n%65536)=(t+2*n)%65536:=(IntKind.wrap_u16 _).trans (by omega)
 have hw3:IntKind.u16.wrap (t+2*n)=(t+2*n)%65536:=IntKind.wrap_u16 _
 have HW:=Lib.hid (wordCode_any E ov S ((t+2*n)%65536) w h (u16m _))
 have HR:=Lib.hid (show tabP E.I S t n=(wdP (cbB E.I S) (cbV E.I S) ((t+2*n)%65536)).to fun v=>{ S with pc:=v } from rfl)
 have HBd:=Lib.hid (fun v (hv:wdP (cbB E.I S) (cbV E.I S) ((t+2*n)%65536)= .ok v)=>show U16 v by
  have h1:=cbV_bd E.I S ((t+2*n)%65536)
  have h2:=cbV_bd E.I S (nx ((t+2*n)%65536))
  unfold wdP at hv
  split at hv
  ·split at hv
   ·injection hv with hv;subst hv;exact⟨by omega,by omega⟩
   ·cases hv
  ·cases hv)
 obtain⟨R,hR⟩:∃ R,tabP E.I S t n=R:=⟨_,rfl⟩
 obtain⟨V,hV⟩:∃ V,wdP (cbB E.I S) (cbV E.I S) ((t+2*n)%65536)=V:=⟨_,rfl⟩
 rw[hR,hV] at HR
 rw[hV] at HW HBd
 rw[hR]
 have hmf:∀ (fn:Fn) (first cap:Array Value) (w:World),(Instr.makeFunc fn first cap).run Tryz.prog w= .ok (.func fn first cap) w:=fun _ _ _ _=>rfl
 obtain⟨t0,t1⟩:=ht
 obtain⟨n0,n1⟩:=hn
 clear hR hV h
 cases V with
 | tr k i=>
  go_enter Tryz.func149,Tryz.ntmps149
  go_wp2_with fail
  refine HW.out.mono ?_
  rintro e w1 ⟨he,hb⟩
  obtain rfl:e= .panicked (trapE k i):=he
  have HM:=Lib.hid (H.out.kept hb)
  have HG:=Lib.hid (gb_below (gb_refl w (some E.b)) hb)
  clear hb
  go_wp2_with fail
  exact⟨rfl,Post.trr HR.out rfl HM.out (Kp.refl S) HG.out⟩
 | ok v=>
  go_enter Tryz.func149,Tryz.ntmps149
  go_wp2_with fail
  refine HW.out.mono ?_
  rintro e w1 ⟨he,hb⟩
  obtain rfl:e= .returned (.int .u16 v):=he
  have HM:=Lib.hid (H.out.kept hb)
  have HX:=Lib.hid ((H.out.kept hb).setPC v (HBd.out v rfl))
  have HG:=Lib.hid (gb_set (gb_below (gb_refl w (some E.b)) hb) 15 (.int .u16 v))
  have c15:=HM.out.c15
  have hf:=HM.out.frz
  clear hb
  go_wp2_with fail
  go_end0
  exact Post.okk HR.out rfl HX.out HG.out
def numP (S:Ms) (op im:Int):Int:=if op=162∨op=163 then S.fp+sgn im else(S.sp:Int) - 1 - im
def NP (S:Ms) (n:Int) (e:Ending):Prop:=if 0≤n∧n < (S.sp:Int) then e= .returned (.int .i64 n) else e= .panicked (trapE 5 0)
theorem NP.y {S:Ms} {n:Int} {e:Ending} (hn:0≤n∧n < (S.sp:Int)) (h:e= .returned (.int .i64 n)):NP S n e:=by unfold NP;rw[if_pos hn];exact h
theorem NP.n {S:Ms} {n:Int} {e:Ending} (hn:¬ (0≤n∧n < (S.sp:Int))) (h:e= .panicked (trapE 5 0)):NP S n e:=by unfold NP;rw[if_neg hn];exact h
theorem NP.yes {S:Ms} {n:Int} {e:Ending} (hn:0≤n∧n < (S.sp:Int)) (h:NP S n e):e= .returned (.int .i64 n):=by unfold NP at h;rw[if_pos hn] at h;exact h
theorem NP.no {S:Ms} {n:Int} {e:Ending} (hn:¬ (0≤n∧n < (S.sp:Int))) (h:NP S n e):e= .panicked (trapE 5 0):=by unfold NP at h;rw[if_neg hn] at h;exact h
theorem ins_new (w:World) (op d s im ax bk sz:Int):(w.alloc (.cells #[.int .i64 op,.int .i64 d,.int .i64 s,.int .u16 im,.int .u16 ax,.int .i64 bk,.int .i64 sz] 58)).cell? ⟨w.heap.size,0,none⟩=some (.int .i64 op)∧(w.alloc (.cells #[.int .i64 op,.int .i64 d,.int .i64 s,.int .u16 im,.int .u16 ax,.int .i64 bk,.int .i64 sz] 58)).cell? ⟨w.heap.size,1,none⟩=some (.int .i64 d)
  ∧(w.alloc (.cells #[.int .i64 op,.int .i64 d,.int .i64 s,.int .u16 im,.int .u16 ax,.int .i64 bk,.int .i64 sz] 58)).cell? ⟨w.heap.size,2,none⟩=some (.int .i64 s)∧(w.alloc (.cells #[.int .i64 op,.int .i64 d,.int .i64 s,.int .u16 im,.int .u16 ax,.int .i64 bk,.int .i64 sz] 58)).cell? ⟨w.heap.size,3,none⟩=some (.int .u16 im)
  ∧(w.alloc (.cells #[.int .i64 op,.int .i64 d,.int .i64 s,.int .u16 im,.int .u16 ax,.int .i64 bk,.int .i64 sz] 58)).cell? ⟨w.heap.size,4,none⟩=some (.int .u16 ax)∧(w.alloc (.cells #[.int .i64 op,.int .i64 d,.int .i64 s,.int .u16 im,.int .u16 ax,.int .i64 bk,.int .i64 sz] 58)).cell? ⟨w.heap.size,5,none⟩=some (.int .i64 bk)
  ∧(w.alloc (.cells #[.int .i64 op,.int .i64 d,.int .i64 s,.int .u16 im,.int .u16 ax,.int .i64 bk,.int .i64 sz] 58)).cell? ⟨w.heap.size,6,none⟩=some (.int .i64 sz):=by
 have hn:=heap_alloc_new w (.cells #[.int .i64 op,.int .i64 d,.int .i64 s,.int .u16 im,.int .u16 ax,.int .i64 bk,.int .i64 sz] 58)
 exact⟨block_cells hn 0 _ rfl,block_cells hn 1 _ rfl,block_cells hn 2 _ rfl,block_cells hn 3 _ rfl,block_cells hn 4 _ rfl,block_cells hn 5 _ rfl,block_cells hn 6 _ rfl⟩
theorem wordNumber_any (E:Env) (ov:Value) (S:Ms) (op d s im ax bk sz:Int) (w:World) (h:Mc E ov S w) (hm:U16 im):
  Calls Tryz.prog 147 #[.pointer (some ⟨E.b,0,none⟩),.agg #[.int .i64 op,.int .i64 d,.int .i64 s,.int .u16 im,.int .u16 ax,.int .i64 bk,.int .i64 sz]] w fun e w'=>NP S (numP S op im) e∧Below w.heap.size w w':=by
 have hA:=h.alloc (.cells #[.int .i64 op,.int .i64 d,.int .i64 s,.int .u16 im,.int .u16 ax,.int .i64 bk,.int .i64 sz] 58)
 have HB:=Lib.hid ((Below.refl _ w).alloc (Nat.le_refl _) (.cells #[.int .i64 op,.int .i64 d,.int .i64 s,.int .u16 im,.int .u16 ax,.int .i64 bk,.int .i64 sz] 58))
 obtain⟨n0,n1,n2,n3,n4,n5,n6⟩:=ins_new w op d s im ax bk sz
 have c16:=hA.c16
 have c17:=hA.c17
 have hlt:=h.lt
 have hne:E.b≠w.heap.size:=by omega
 obtain⟨f0,f1⟩:=h.ok.fp
 have hs:=h.ok.sp
 obtain⟨m0,m1⟩:=hm
 have hsg:=wrap_i16_sgn im m0 m1
 have hsb: -32768≤sgn im∧sgn im < 32768:=by unfold sgn;split<;>omega
 have HN:=Lib.hid (show numP S op im=if op=162∨op=163 then S.fp+sgn im else(S.sp:Int) - 1 - im from rfl)
 obtain⟨n,hn⟩:∃ n,numP S op im=n:=⟨_,rfl⟩
 rw[hn] at HN ⊢
 obtain⟨g,hg⟩:∃ g,sgn im=g:=⟨_,rfl⟩
 rw[hg] at HN hsg hsb
 obtain⟨fp,hfp⟩:∃ fp,S.fp=fp:=⟨_,rfl⟩
 rw[hfp] at HN c17 f0 f1
 have HNP:=Lib.hid (fun (q:0≤n∧n < (S.sp:Int))=>NP.y (S:=S) (e:= .returned (.int .i64 n)) q rfl)
 have HNN:=Lib.hid (fun (q:¬ (0≤n∧n < (S.sp:Int)))=>NP.n (S:=S) (n:=n) (e:= .panicked (trapE 5 0)) q rfl)
 have hs':((S.sp:Nat):Int)≤4096:=by omega
 obtain⟨p,hp⟩:∃ p:Int,((S.sp:Nat):Int)=p:=⟨_,rfl⟩
 have p0:0≤p:=by omega
 rw[hp] at HN c16 HNP HNN hs'
 clear h hA hn hg hfp hs hp
 obtain⟨hsb0,hsb1⟩:=hsb
 by_cases q1:op=162
 ·have hN:n=fp+g:=HN.out.trans (if_pos (Or.inl q1))
  subst q1
  clear HN
  by_cases qa:0≤n
  ·by_cases qb:n < p
   ·have HY:=Lib.hid (HNP.out ⟨qa,qb⟩)
    subst hN
    go_enter Tryz.func147,Tryz.ntmps147
    go_wp2_with fail
    go_region
    go_wp2_with fail
    go_region
    go_wp2_with fail
    refine(demand_ok _ _ _).mono ?_
    rintro e w3 ⟨rfl,rfl⟩
    go_wp2_with fail
    go_ret
    exact⟨HY.out,(by first | exact HB.out.drew.drew | exact HB.out.drew)⟩
   ·have HY:=Lib.hid (HNN.out fun c=>qb c.2)
    subst hN
    have dq:=decide_eq_false qb
    go_enter Tryz.func147,Tryz.ntmps147
    go_wp2_with fail
    go_region
    go_wp2_with fail
    go_region
    go_wp2_with fail
    refine(demand_no _ _ _).mono ?_
    rintro e w3 ⟨rfl,rfl⟩
    go_wp2_with fail
    exact⟨rfl,HY.out,(by first | exact HB.out.drew.drew | exact HB.out.drew)⟩
  ·have HY:=Lib.hid (HNN.out fun c=>qa c.1)
   subst hN
   have dq:=decide_eq_false qa
   go_enter Tryz.func147,Tryz.ntmps147
   go_wp2_with fail
   go_region
   go_wp2_with fail
   go_region
   go_wp2_with fail
   refine(demand_no _ _ _).mono ?_
   rintro e w3 ⟨rfl,rfl⟩
   go_wp2_with fail
   exact⟨rfl,HY.out,(by first | exact HB.out.drew.drew | exact HB.out.drew)⟩
 by_cases q2:op=163
 ·have hN:n=fp+g:=HN.out.trans (if_pos (Or.inr q2))
  subst q2
  clear q1
  clear HN
  by_cases qa:0≤n
  ·by_cases qb:n < p
   ·have HY:=Lib.hid (HNP.out ⟨qa,qb⟩)
    subst hN
    go_enter Tryz.func147,Tryz.ntmps147
    go_wp2_with fail
    go_region
    go_wp2_with fail
    go_region
    go_wp2_with fail
    refine(demand_ok _ _ _).mono ?_
    rintro e w3 ⟨rfl,rfl⟩
    go_wp2_with fail
    go_ret
    exact⟨HY.out,(by first | exact HB.out.drew.drew | exact HB.out.drew)⟩
   ·have HY:=Lib.hid (HNN.out fun c=>qb c.2)
    subst hN
    have dq:=decide_eq_false qb
    go_enter Tryz.func147,Tryz.ntmps147
    go_wp2_with fail
    go_region
    go_wp2_with fail
    go_region
    go_wp2_with fail
    refine(demand_no _ _ _).mono ?_
    rintro e w3 ⟨rfl,rfl⟩
    go_wp2_with fail
    exact⟨rfl,HY.out,(by first | exact HB.out.drew.drew | exact HB.out.drew)⟩
  ·have HY:=Lib.hid (HNN.out fun c=>qa c.1)
   subst hN
   have dq:=decide_eq_false qa
   go_enter Tryz.func147,Tryz.ntmps147
   go_wp2_with fail
   go_region
   go_wp2_with fail
   go_region
   go_wp2_with fail
   refine(demand_no _ _ _).mono ?_
   rintro e w3 ⟨rfl,rfl⟩
   go_wp2_with fail
   exact⟨rfl,HY.out,(by first | exact HB.out.drew.drew | exact HB.out.drew)⟩
 ·have hN:n=p - 1 - im:=HN.out.trans (if_neg (by omega))
  have r1:(op == 162)=false:=by simpa using q1
  have r2:(op == 163)=false:=by simpa using q2
  clear q1 q2
  clear HN
  by_cases qa:0≤n
  ·by_cases qb:n < p
   ·have HY:=Lib.hid (HNP.out ⟨qa,qb⟩)
    subst hN
    go_enter Tryz.func147,Tryz.ntmps147
    go_wp2_with fail
    go_region
    go_wp2_with fail
    refine(demand_ok _ _ _).mono ?_
    rintro e w3 ⟨rfl,rfl⟩
    go_wp2_with fail
    go_ret
    exact⟨HY.out,(by first | exact HB.out.drew.drew | exact HB.out.drew)⟩
   ·exact absurd (show n < p by omega) qb
  ·have HY:=Lib.hid (HNN.out fun c=>qa c.1)
   subst hN
   have dq:=decide_eq_false qa
   go_enter Tryz.func147,Tryz.ntmps147
   go_wp2_with fail
   go_region
   go_wp2_with fail
   refine(demand_no _ _ _).mono ?_
   rintro e w3 ⟨rfl,rfl⟩
   go_wp2_with fail
   exact⟨rfl,HY.out,(by first | exact HB.out.drew.drew | exact HB.out.drew)⟩
theorem zs_sp (S:Ms):∀ k,(zs S k).sp=S.sp+k
 | 0=>rfl
 | k+1=>by simp only[zs,psh,zs_sp S k];omega
theorem zs_ram (S:Ms):∀ k,(zs S k).ram=S.ram
 | 0=>rfl
 | k+1=>zs_ram S k
theorem zs_out (S:Ms):∀ k,(zs S k).out=S.out
 | 0=>rfl
 | k+1=>zs_out S k
theorem zs_stk (S:Ms) (j:Nat) (hj:j < S.sp):∀ k,(zs S k).stk j=S.stk j
 | 0=>rfl
 | k+1=>(upd_ne _ _ (by rw[zs_sp];omega)).trans (zs_stk S j hj k)
theorem openFrame_any (E:Env) (ov:Value) (S:Ms) (n:Int) (w:World) (h:Mc E ov S w) (hn:U16 n):
  Calls Tryz.prog 145 #[.pointer (some ⟨E.b,0,none⟩),.int .u16 n] w fun e w'=>Post E ov S w (enterP S n) e w':=by
 have H:=Lib.hid h
 have c17:=h.c17
 have hfp:=Lib.hid h.ok.fp
 have hsp:=h.ok.sp
 obtain⟨m,rfl⟩:∃ m:Nat,n=m:=⟨n.toNat,by have:=hn.1;omega⟩
 have hm:(m:Int) < 65536:=hn.2
 have HR:=Lib.hid (show enterP S (m:Int)=if (S.sp:Int)+1+(m:Int)≤4096 then .ok (zs { psh S S.fp with fp:=S.sp+1 } m) else .tr 5 0 from rfl)
 obtain⟨r,hr⟩:∃ r,enterP S (m:Int)=r:=⟨_,rfl⟩
 rw[hr] at HR ⊢
 clear h hr hn
 by_cases s1:S.sp < 4096
 ·go_enter Tryz.func145,Tryz.ntmps145
  go_wp2_with fail
  refine(push_ok E ov S S.fp _ H.out hfp.out s1).mono ?_
  rintro e w1 ⟨rfl,hm1,hg⟩
  obtain⟨S2,hS2⟩:∃ S2:Ms,({ psh S S.fp with fp:=S.sp+1 } :Ms)=S2:=⟨_,rfl⟩
  have hm2:Mc E ov S2 (w1.setCell ⟨E.b,17,none⟩ (.int .u16 ((S.sp:Int)+1))):=hS2▸hm1.setFP ((S.sp:Int)+1) ⟨by omega,by omega⟩
  have HS2:=Lib.hid (show S2.sp=S.sp+1∧S2.ram=S.ram∧S2.out=S.out∧∀ j,j < S.sp→S2.stk j=S.stk j from by subst hS2;exact⟨rfl,rfl,rfl,fun j hj=>upd_ne _ _ (by omega)⟩)
  have HM:=Lib.hid (And.intro hm2 (gb_set hg 17 (.int .u16 ((S.sp:Int)+1))))
  have c16:w1.cell? ⟨E.b,16,none⟩=some (.int .u16 ((S.sp:Int)+1)):=hm1.c16
  have hf:=hm1.frz
  have c17':w1.cell? ⟨E.b,17,none⟩=some (.int .u16 S.fp):=hm1.c17
  rw[hS2] at HR
  clear c17 hm1 hg hm2 hS2
  go_wp2_with fail
  obtain⟨W,hW⟩:∃ W,w1.setCell ⟨E.b,17,none⟩ (.int .u16 ((S.sp:Int)+1))=W:=⟨_,rfl⟩
  rw[hW] at HM ⊢
  clear hW c16 hf c17'
  have HKp:=Lib.hid (fun k=>(⟨(zs_ram S2 k).trans HS2.out.2.1,(zs_out S2 k).trans HS2.out.2.2.1,fun j hj=>(zs_stk S2 j (by have:=HS2.out.1;omega) k).trans (HS2.out.2.2.2 j hj)⟩:Kp S (zs S2 k)))
  have HSp:=Lib.hid (fun k=>(zs_sp S2 k).trans (by rw[HS2.out.1]))
  go_loopw [21] (fun i wr=>∃ k:Nat,k≤m∧i= .int .u16 k∧Hid (Mc E ov (zs S2 k) wr∧w.grownBy wr (some E.b))∧Hid (S.sp+1+k≤4096)) (fun i _=>m - (intOf i).toNat)
  case atStart=>exact⟨0,Nat.zero_le _,rfl,HM,Lib.hid (by omega)⟩
  case round=>
   obtain⟨k,hk,rfl,HK,HL⟩:=hrel
   by_cases hlt:k < m
   ·have hlt':(k:Int) < (m:Int):=by omega
    go_wp2_with fail
    by_cases s3:S.sp+1+k < 4096
    ·refine(push_ok E ov (zs S2 k) 0 _ HK.out.1 ⟨by decide,by decide⟩ (by rw[HSp.out];exact s3)).mono ?_
     rintro e w2 ⟨rfl,hm2,hg2⟩
     have HK2:=Lib.hid (And.intro hm2 (gb_trans HK.out.2 hg2))
     clear hm2 hg2
     go_wp2_with fail
     go_roundw
     case rel=>exact⟨k+1,hlt,by go_num,HK2,Lib.hid (by omega)⟩
     case measure=>simp[intOf];omega
    ·refine(push_no E ov (zs S2 k) 0 _ HK.out.1 (by rw[HSp.out];omega)).mono ?_
     rintro e w2 ⟨rfl,rfl⟩
     go_wp2_with fail
     exact⟨rfl,Post.trr (HR.out.trans (if_neg (by omega))) rfl HK.out.1 (HKp.out k) HK.out.2⟩
   ·have hkm:k=m:=by omega
    subst hkm
    go_wp2_with fail
    go_end0
    exact Post.okk (HR.out.trans (if_pos (by have:=HL.out;omega))) rfl HK.out.1 HK.out.2
 ·go_enter Tryz.func145,Tryz.ntmps145
  go_wp2_with fail
  refine(push_no E ov S S.fp _ H.out (by omega)).mono ?_
  rintro e w1 ⟨rfl,rfl⟩
  go_wp2_with fail
  exact⟨rfl,Post.trr (HR.out.trans (if_neg (by omega))) rfl H.out (Kp.refl S) (gb_refl _ _)⟩
theorem closeFrame_any (E:Env) (ov:Value) (S:Ms) (w:World) (h:Mc E ov S w):
  Calls Tryz.prog 146 #[.pointer (some ⟨E.b,0,none⟩)] w fun e w'=>Post E ov S w (leaveP S) e w':=by
 have H:=Lib.hid h
 have c17:=h.c17
 have c16:=h.c16
 have hf:=h.frz
 have hfp:=h.ok.fp
 have hsp:=h.ok.sp
 have HR:=Lib.hid (show leaveP S=if 0 < S.fp∧S.fp≤(S.sp:Int) then .ok { S with fp:=S.stk (S.fp.toNat - 1),sp:=S.fp.toNat - 1 } else .tr 5 0 from rfl)
 obtain⟨r,hr⟩:∃ r,leaveP S=r:=⟨_,rfl⟩
 rw[hr] at HR ⊢
 obtain⟨f0,f1⟩:=hfp
 have HST:=Lib.hid h.ok.stk
 obtain⟨fp,hfp⟩:∃ fp,S.fp=fp:=⟨_,rfl⟩
 obtain⟨p,hp⟩:∃ p:Int,(S.sp:Int)=p:=⟨_,rfl⟩
 rw[hfp,hp] at HR
 rw[hfp] at c17 f0 f1
 rw[hp] at c16
 have p0:0≤p:=by omega
 have p1:p≤4096:=by omega
 have HFP:=Lib.hid hfp
 clear h hr hp hfp hsp
 have hS1:=Lib.hid (And.intro c16 c17)
 by_cases q1:0 < fp
 ·by_cases q2:fp≤p
  ·have dq:=decide_eq_true q2
   go_enter Tryz.func146,Tryz.ntmps146
   go_wp2_with fail
   refine wp_region_held_drew (S:=fun w'=>w'.cell? ⟨E.b,16,none⟩=some (.int .u16 p)∧w'.cell? ⟨E.b,17,none⟩=some (.int .u16 fp)) (by kernel_rfl) (hS1.out) (fun hHeld=>?_)
   refine tq 0 rfl ?_
   refine tq 1 rfl ?_
   refine tq 2 rfl ?_
   refine tq 3 rfl ?_
   refine tq 4 rfl ?_
   refine tq 5 rfl ?_
   refine tq 6 rfl ?_
   refine tq 7 rfl ?_
   refine tq 8 rfl ?_
   refine tq 9 rfl ?_
   refine tq 10 rfl ?_
   refine tq 11 rfl ?_
   refine tq 12 rfl ?_
   refine tq 13 rfl ?_
   refine tq 14 rfl ?_
   refine tq 15 rfl ?_
   refine tq 16 rfl ?_
   refine tq 17 rfl ?_
   refine tq 18 rfl ?_
   refine rd1 19 rfl (fun K hK=>?_)
   go_simp
   ((go_at_call 61;(with_reducible refine(demand_ok _ _ _).mono ?_));rintro e w1 ⟨rfl,rfl⟩)
   go_wp2_with fail
   refine hK.out _ _ (hS1.out) (fun hHeld=>?_)
   clear hK K
   try simp only[lay]
   refine wpAnyH_done (by kernel_rfl) ?_ _
   obtain⟨k,hk⟩:∃ k:Nat,fp=(k:Int)+1:=⟨(fp - 1).toNat,by omega⟩
   have HX:=Lib.hid (H.out.drew.setSP (k+1) (by omega))
   have hfz:=H.out.drew.frz
   subst hk
   have hK:w.drew.setCell ⟨E.b,16,none⟩ (.int .u16 ((k+1:Nat):Int))=w.drew.setCell ⟨E.b,16,none⟩ (.int .u16 ((k:Int)+1)):=rfl
   rw[hK] at HX
   obtain⟨wd,hwd⟩:∃ wd,w.drew=wd:=⟨_,rfl⟩
   have HG:=Lib.hid (gb_drew (gb_refl w (some E.b)))
   rw[hwd] at HX hfz HG ⊢
   have d16:wd.cell? ⟨E.b,16,none⟩=some (.int .u16 p):=by rw[← hwd];exact c16
   have d17:wd.cell? ⟨E.b,17,none⟩=some (.int .u16 ((k:Int)+1)):=by rw[← hwd];exact c17
   clear c16 c17 hf hS1 hK hwd dq
   go_wp2_with fail
   refine(pop_ok E ov _ _ HX.out (Nat.succ_pos k)).mono ?_
   rintro e w2 ⟨rfl,hm2,hg2⟩
   have hv:=HST.out k (by omega)
   simp only[Nat.add_sub_cancel] at hm2 ⊢
   obtain⟨v,hv'⟩:∃ v,S.stk k=v:=⟨_,rfl⟩
   rw[hv'] at hv ⊢
   have HY:=Lib.hid (hm2.setFP v hv)
   have HG2:=Lib.hid (gb_set (gb_trans (gb_set HG.out 16 (.int .u16 ((k:Int)+1))) hg2) 17 (.int .u16 v))
   have e17:w2.cell? ⟨E.b,17,none⟩=some (.int .u16 S.fp):=hm2.c17
   have ef:=hm2.frz
   have HV:=Lib.hid hv'
   clear hm2 hg2 hv hv' hfz
   go_wp2_with fail
   go_end0
   refine Post.okk (HR.out.trans ((if_pos ⟨q1,q2⟩).trans ?_)) rfl HY.out HG2.out
   have hk1:(S.fp.toNat - 1)=k:=by rw[HFP.out];omega
   have hk2:(((k:Int)+1).toNat - 1)=k:=by omega
   simp only[hk2,HV.out]
  ·have dq:=decide_eq_false q2
   go_enter Tryz.func146,Tryz.ntmps146
   go_wp2_with fail
   refine wp_region_held_drew (S:=fun w'=>w'.cell? ⟨E.b,16,none⟩=some (.int .u16 p)∧w'.cell? ⟨E.b,17,none⟩=some (.int .u16 fp)) (by kernel_rfl) (hS1.out) (fun hHeld=>?_)
   refine tq 0 rfl ?_
   refine tq 1 rfl ?_
   refine tq 2 rfl ?_
   refine tq 3 rfl ?_
   refine tq 4 rfl ?_
   refine tq 5 rfl ?_
   refine tq 6 rfl ?_
   refine tq 7 rfl ?_
   refine tq 8 rfl ?_
   refine tq 9 rfl ?_
   refine tq 10 rfl ?_
   refine tq 11 rfl ?_
   refine tq 12 rfl ?_
   refine tq 13 rfl ?_
   refine tq 14 rfl ?_
   refine tq 15 rfl ?_
   refine tq 16 rfl ?_
   refine tq 17 rfl ?_
   refine tq 18 rfl ?_
   refine rd1 19 rfl (fun K hK=>?_)
   go_simp
   ((go_at_call 61;(with_reducible refine(demand_no _ _ _).mono ?_));rintro e w1 ⟨rfl,rfl⟩)
   go_wp2_with fail
   exact⟨rfl,Post.trr (HR.out.trans (if_neg (by omega))) rfl H.out.drew (Kp.refl S) (gb_drew (gb_refl _ _))⟩
 ·have dq:=decide_eq_false q1
  go_enter Tryz.func146,Tryz.ntmps146
  go_wp2_with fail
  refine wp_region_held_drew (S:=fun w'=>w'.cell? ⟨E.b,16,none⟩=some (.int .u16 p)∧w'.cell? ⟨E.b,17,none⟩=some (.int .u16 fp)) (by kernel_rfl) (hS1.out) (fun hHeld=>?_)
  refine tq 0 rfl ?_
  refine tq 1 rfl ?_
  refine tq 2 rfl ?_
  refine tq 3 rfl ?_
  refine tq 4 rfl ?_
  refine tq 5 rfl ?_
  refine tq 6 rfl ?_
  refine tk 7 undef rfl (Or.inr ⟨by rfl,rfl⟩) ?_
  refine tk 8 undef rfl (Or.inr ⟨by rfl,rfl⟩) ?_
  refine tk 9 undef rfl (Or.inr ⟨by rfl,rfl⟩) ?_
  refine tk 10 undef rfl (Or.inr ⟨by rfl,rfl⟩) ?_
  refine tk 11 undef rfl (Or.inr ⟨by rfl,rfl⟩) ?_
  refine tk 12 undef rfl (Or.inr ⟨by rfl,rfl⟩) ?_
  refine tk 13 undef rfl (Or.inr ⟨by rfl,rfl⟩) ?_
  refine tk 14 undef rfl (Or.inr ⟨by rfl,rfl⟩) ?_
  refine tk 15 undef rfl (Or.inr ⟨by rfl,rfl⟩) ?_
  refine tk 16 undef rfl (Or.inr ⟨by rfl,rfl⟩) ?_
  refine tk 17 undef rfl (Or.inr ⟨by rfl,rfl⟩) ?_
  refine tq 18 rfl ?_
  refine rd1 19 rfl (fun K hK=>?_)
  go_simp
  ((go_at_call 61;(with_reducible refine(demand_no _ _ _).mono ?_));rintro e w1 ⟨rfl,rfl⟩)
  go_wp2_with fail
  exact⟨rfl,Post.trr (HR.out.trans (if_neg (by omega))) rfl H.out.drew (Kp.refl S) (gb_drew (gb_refl _ _))⟩
end Go.Proofs.YthkcloapiefggaaGreatDoor
