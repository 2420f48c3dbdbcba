import Derived.Test.YthkcloapiefggaaGreatDoorQXqc
namespace Go.Proofs.YthkcloapiefggaaGreatDoor
set_option linter.unusedVariables false
set_option linter.unusedSimpArgs false
set_option maxRecDepth 100000
set_option maxHeartbeats 1000000
open Go.ChangeShapes Go.WideShapes Go.RowKit
section
variable {E:Qe} {sv ov:Value} {S S0:Ms} {d:Nat} {k i:Int} {w:World}
theorem GL{ok:Int→Bool}{val:Int→Int}{a v:Int}(h:∀ x,0≤val x∧val x < 256)(hv:byP ok val a= .ok v):U16 v:=by
 unfold byP at hv
 split at hv
 ·injection hv with hv;have:=h a;subst hv;exact⟨by omega,by omega⟩
 ·cases hv
theorem zk(S:Ms)(op d s im ax bk sz:Int)(h:84≤op∧op≤87):atP S ⟨op,d,s,im,ax,bk,sz⟩=im:=by unfold atP;exact if_pos h
theorem qX(S:Ms)(op d s im ax bk sz:Int)(h:¬ (84≤op∧op≤87)):atP S ⟨op,d,s,im,ax,bk,sz⟩=(S.r s.toNat+im)%65536:=by unfold atP;exact if_neg h
theorem zh{S:Ms}(h:S.Ok){a v:Int}(hv:byP bQ (eY S) a= .ok v):U16 v:=by
 unfold byP at hv
 split at hv
 ·rename_i c;injection hv with hv;have:=jH h c;subst hv;exact⟨by omega,by omega⟩
 ·cases hv
set_option maxHeartbeats 4000000 in
theorem yL(op:Int)(ho:op=80∨op=88)(k j:Nat)(im ax bk sz:Int)(h:Mq E sv ov S S.sp 0 0 w)(hk:k < 8)(hj:j < 8)(hm:U16 im)(hx:U16 ax)(b0:0≤bk)(b1:bk < 256):
 Calls Tryz.prog 70 #[.pointer (some ⟨E.b,0,none⟩),.agg #[.int .i64 op,.int .i64 (k:Int),.int .i64 (j:Int),.int .u16 im,.int .u16 ax,.int .i64 bk,.int .i64 sz]] w (PsE E sv ov S w ((wdP bQ (eY S) (atP S ⟨op,k,j,im,ax,bk,sz⟩)).to (aZ S k))):=by
 obtain⟨n0,n1,n2,n3,n4,n5,n6⟩:=aG w op k j im ax bk sz;have HB:=Nc (heap_alloc_new w (.cells #[.int .i64 op,.int .i64 (k:Int),.int .i64 (j:Int),.int .u16 im,.int .u16 ax,.int .i64 bk,.int .i64 sz] 58));have H:=Nc (h.alloc (.cells #[.int .i64 op,.int .i64 (k:Int),.int .i64 (j:Int),.int .u16 im,.int .u16 ax,.int .i64 bk,.int .i64 sz] 58));have HF:=Nc ((Frq.refl E sv ov w).alloc (.cells #[.int .i64 op,.int .i64 (k:Int),.int .i64 (j:Int),.int .u16 im,.int .u16 ax,.int .i64 bk,.int .i64 sz] 58));have hne:E.b≠w.heap.size:=by have:=h.lt;omega
 have hk8:(k:Int) < 8:=by omega
 have hj8:(j:Int) < 8:=by omega
 have cR:=H.out.cR k hk;have cS:=H.out.cR j hj;have hf:=H.out.frz;have HR:=Nc (h.ok.r k hk);have HO:=Nc h.ok;obtain⟨s0,s1⟩:=h.ok.r j hj;obtain⟨m0,m1⟩:=hm;have hU:U16 (atP S ⟨op,k,j,im,ax,bk,sz⟩):=by unfold atP;split;exact⟨m0,m1⟩;exact dU _
 have hA:atP S ⟨op,k,j,im,ax,bk,sz⟩=(S.r j+im)%65536:=qX S _ _ _ _ _ _ _ (by omega);have hw0:IntKind.u16.wrap (S.r j+im)=(S.r j+im)%65536:=IntKind.wrap_u16 _;rw[hA] at hU⊢;obtain⟨a,ha⟩:∃ a,(S.r j+im)%65536=a:=⟨_,rfl⟩;rw[ha] at hU hw0⊢;clear ha;have HV:=Nc (fun W (hm:Mq E sv ov S S.sp 0 0 W)=>yF a hm hU);have HVB:=Nc (fun (v:Int) (hv:wdP bQ (eY S) (a)= .ok v)=>pz (fun x hx=>jH HO.out hx) hv);obtain⟨V,hV⟩:∃ V,wdP bQ (eY S) (a)=V:=⟨_,rfl⟩;rw[hV] at HV HVB⊢;clear h hV hA;cases V with
 | ok v=>
  have HS:=Nc (H.out.aZ k hk v (HVB.out v rfl));have HG:=Nc (HF.out.set (7+k) (.int .u16 v));rcases ho with rfl|rfl;all_goals
   go_enter Tryz.func70,Tryz.ntmps70
   go_wp2_with fail
   go_region
   go_wp2_with fail
   go_region_with ((go_at_call 120);(with_reducible refine(HV.out _ (by first | exact H.out.drew.drew | exact H.out.drew | exact H.out)).mono ?_);rintro e w' ⟨rfl,rfl⟩)
   all_goals
    go_wp2_with fail
    first | go_end0 | refine bodyPost_ret (results_none rfl _ _ _) rfl ?_
    first
    | exact PsE.okk rfl rfl HS.out HG.out
    | exact PsE.okk rfl rfl HS.out.drew HG.out.drew
    | exact PsE.okk rfl rfl HS.out.drew.drew HG.out.drew.drew
 | tr t i=>
  have HS:=Nc (fun W (hm:Mq E sv ov S S.sp t i W)=>hm.aZ k hk 0 ⟨by decide,by decide⟩);have HU:=Nc (fun W (hm:Mq E sv ov S S.sp t i W)=>hm.cR k hk);rcases ho with rfl|rfl;all_goals
   go_enter Tryz.func70,Tryz.ntmps70
   go_wp2_with fail
   go_region
   go_wp2_with fail
   go_region_with ((go_at_call 120);(with_reducible refine(HV.out _ (by first | exact H.out.drew.drew | exact H.out.drew | exact H.out)).mono ?_);rintro e w' ⟨rfl,hm',hf'⟩;have HX:=Nc (And.intro hm' hf');have m1:=ae (hf'.keep (by first | exact H.out.drew.drew | exact H.out.drew | exact H.out) HB.out) 1 (.int .i64 (k:Int)) rfl;have m5:=ae (hf'.keep (by first | exact H.out.drew.drew | exact H.out.drew | exact H.out) HB.out) 5 (.int .i64 bk) rfl;have mf:=hm'.frz;have mc:=HU.out _ hm';clear hm' hf')
   all_goals
    go_wp2_with fail
    first | go_end0 | refine bodyPost_ret (results_none rfl _ _ _) rfl ?_
    first
    | exact PsE.trr rfl rfl (HS.out _ HX.out.1) ⟨rfl,rfl,fun _ _=>rfl⟩ ((HF.out.trans (by first | exact HX.out.2 | exact(Frq.below (Below.refl _ _).drew).trans HX.out.2 | exact(Frq.below (Below.refl _ _).drew.drew).trans HX.out.2)).set _ _)
    | exact PsE.trr rfl rfl (HS.out _ HX.out.1).drew ⟨rfl,rfl,fun _ _=>rfl⟩ ((HF.out.trans (by first | exact HX.out.2 | exact(Frq.below (Below.refl _ _).drew).trans HX.out.2 | exact(Frq.below (Below.refl _ _).drew.drew).trans HX.out.2)).set _ _).drew
set_option maxHeartbeats 4000000 in
theorem CB(k j:Nat)(im ax bk sz:Int)(h:Mq E sv ov S S.sp 0 0 w)(hk:k < 8)(hj:j < 8)(hm:U16 im)(hx:U16 ax)(b0:0≤bk)(b1:bk < 256):
 Calls Tryz.prog 70 #[.pointer (some ⟨E.b,0,none⟩),.agg #[.int .i64 84,.int .i64 (k:Int),.int .i64 (j:Int),.int .u16 im,.int .u16 ax,.int .i64 bk,.int .i64 sz]] w (PsE E sv ov S w ((wdP bQ (eY S) (atP S ⟨84,k,j,im,ax,bk,sz⟩)).to (aZ S k))):=by
 obtain⟨n0,n1,n2,n3,n4,n5,n6⟩:=aG w 84 k j im ax bk sz;have HB:=Nc (heap_alloc_new w (.cells #[.int .i64 84,.int .i64 (k:Int),.int .i64 (j:Int),.int .u16 im,.int .u16 ax,.int .i64 bk,.int .i64 sz] 58));have H:=Nc (h.alloc (.cells #[.int .i64 84,.int .i64 (k:Int),.int .i64 (j:Int),.int .u16 im,.int .u16 ax,.int .i64 bk,.int .i64 sz] 58));have HF:=Nc ((Frq.refl E sv ov w).alloc (.cells #[.int .i64 84,.int .i64 (k:Int),.int .i64 (j:Int),.int .u16 im,.int .u16 ax,.int .i64 bk,.int .i64 sz] 58));have hne:E.b≠w.heap.size:=by have:=h.lt;omega
 have hk8:(k:Int) < 8:=by omega
 have hj8:(j:Int) < 8:=by omega
 have cR:=H.out.cR k hk;have cS:=H.out.cR j hj;have hf:=H.out.frz;have HR:=Nc (h.ok.r k hk);have HO:=Nc h.ok;obtain⟨s0,s1⟩:=h.ok.r j hj;obtain⟨m0,m1⟩:=hm;have hU:U16 (atP S ⟨84,k,j,im,ax,bk,sz⟩):=by unfold atP;split;exact⟨m0,m1⟩;exact dU _
 have hA:atP S ⟨84,k,j,im,ax,bk,sz⟩=im:=zk S _ _ _ _ _ _ _ (by omega);rw[hA] at hU⊢;obtain⟨a,ha⟩:∃ a,im=a:=⟨_,rfl⟩;subst ha;have HV:=Nc (fun W (hm:Mq E sv ov S S.sp 0 0 W)=>yF im hm hU);have HVB:=Nc (fun (v:Int) (hv:wdP bQ (eY S) (im)= .ok v)=>pz (fun x hx=>jH HO.out hx) hv);obtain⟨V,hV⟩:∃ V,wdP bQ (eY S) (im)=V:=⟨_,rfl⟩;rw[hV] at HV HVB⊢;clear h hV hA;cases V with
 | ok v=>
  have HS:=Nc (H.out.aZ k hk v (HVB.out v rfl));have HG:=Nc (HF.out.set (7+k) (.int .u16 v));go_enter Tryz.func70,Tryz.ntmps70
  go_wp2_with fail
  go_region_with ((go_at_call 120);(with_reducible refine(HV.out _ (by first | exact H.out.drew.drew | exact H.out.drew | exact H.out)).mono ?_);rintro e w' ⟨rfl,rfl⟩)
  all_goals
   go_wp2_with fail
   first | go_end0 | refine bodyPost_ret (results_none rfl _ _ _) rfl ?_
   first
   | exact PsE.okk rfl rfl HS.out HG.out
   | exact PsE.okk rfl rfl HS.out.drew HG.out.drew
   | exact PsE.okk rfl rfl HS.out.drew.drew HG.out.drew.drew
 | tr t i=>
  have HS:=Nc (fun W (hm:Mq E sv ov S S.sp t i W)=>hm.aZ k hk 0 ⟨by decide,by decide⟩);have HU:=Nc (fun W (hm:Mq E sv ov S S.sp t i W)=>hm.cR k hk);go_enter Tryz.func70,Tryz.ntmps70
  go_wp2_with fail
  go_region_with ((go_at_call 120);(with_reducible refine(HV.out _ (by first | exact H.out.drew.drew | exact H.out.drew | exact H.out)).mono ?_);rintro e w' ⟨rfl,hm',hf'⟩;have HX:=Nc (And.intro hm' hf');have m1:=ae (hf'.keep (by first | exact H.out.drew.drew | exact H.out.drew | exact H.out) HB.out) 1 (.int .i64 (k:Int)) rfl;have m5:=ae (hf'.keep (by first | exact H.out.drew.drew | exact H.out.drew | exact H.out) HB.out) 5 (.int .i64 bk) rfl;have mf:=hm'.frz;have mc:=HU.out _ hm';clear hm' hf')
  all_goals
   go_wp2_with fail
   first | go_end0 | refine bodyPost_ret (results_none rfl _ _ _) rfl ?_
   first
   | exact PsE.trr rfl rfl (HS.out _ HX.out.1) ⟨rfl,rfl,fun _ _=>rfl⟩ ((HF.out.trans (by first | exact HX.out.2 | exact(Frq.below (Below.refl _ _).drew).trans HX.out.2 | exact(Frq.below (Below.refl _ _).drew.drew).trans HX.out.2)).set _ _)
   | exact PsE.trr rfl rfl (HS.out _ HX.out.1).drew ⟨rfl,rfl,fun _ _=>rfl⟩ ((HF.out.trans (by first | exact HX.out.2 | exact(Frq.below (Below.refl _ _).drew).trans HX.out.2 | exact(Frq.below (Below.refl _ _).drew.drew).trans HX.out.2)).set _ _).drew
set_option maxHeartbeats 4000000 in
theorem yM(op:Int)(ho:op=81∨op=89)(k j:Nat)(im ax bk sz:Int)(h:Mq E sv ov S S.sp 0 0 w)(hk:k < 8)(hj:j < 8)(hm:U16 im)(hx:U16 ax)(b0:0≤bk)(b1:bk < 256):
 Calls Tryz.prog 70 #[.pointer (some ⟨E.b,0,none⟩),.agg #[.int .i64 op,.int .i64 (k:Int),.int .i64 (j:Int),.int .u16 im,.int .u16 ax,.int .i64 bk,.int .i64 sz]] w (PsE E sv ov S w ((byP bQ (eY S) (atP S ⟨op,k,j,im,ax,bk,sz⟩)).to (aZ S k))):=by
 obtain⟨n0,n1,n2,n3,n4,n5,n6⟩:=aG w op k j im ax bk sz;have HB:=Nc (heap_alloc_new w (.cells #[.int .i64 op,.int .i64 (k:Int),.int .i64 (j:Int),.int .u16 im,.int .u16 ax,.int .i64 bk,.int .i64 sz] 58));have H:=Nc (h.alloc (.cells #[.int .i64 op,.int .i64 (k:Int),.int .i64 (j:Int),.int .u16 im,.int .u16 ax,.int .i64 bk,.int .i64 sz] 58));have HF:=Nc ((Frq.refl E sv ov w).alloc (.cells #[.int .i64 op,.int .i64 (k:Int),.int .i64 (j:Int),.int .u16 im,.int .u16 ax,.int .i64 bk,.int .i64 sz] 58));have hne:E.b≠w.heap.size:=by have:=h.lt;omega
 have hk8:(k:Int) < 8:=by omega
 have hj8:(j:Int) < 8:=by omega
 have cR:=H.out.cR k hk;have cS:=H.out.cR j hj;have hf:=H.out.frz;have HR:=Nc (h.ok.r k hk);have HO:=Nc h.ok;obtain⟨s0,s1⟩:=h.ok.r j hj;obtain⟨m0,m1⟩:=hm;have hU:U16 (atP S ⟨op,k,j,im,ax,bk,sz⟩):=by unfold atP;split;exact⟨m0,m1⟩;exact dU _
 have hA:atP S ⟨op,k,j,im,ax,bk,sz⟩=(S.r j+im)%65536:=qX S _ _ _ _ _ _ _ (by omega);have hw0:IntKind.u16.wrap (S.r j+im)=(S.r j+im)%65536:=IntKind.wrap_u16 _;rw[hA] at hU⊢;obtain⟨a,ha⟩:∃ a,(S.r j+im)%65536=a:=⟨_,rfl⟩;rw[ha] at hU hw0⊢;clear ha;have HV:=Nc (fun W (hm:Mq E sv ov S S.sp 0 0 W)=>yG a hm hU);have HVB:=Nc (fun (v:Int) (hv:byP bQ (eY S) (a)= .ok v)=>zh HO.out hv);obtain⟨V,hV⟩:∃ V,byP bQ (eY S) (a)=V:=⟨_,rfl⟩;rw[hV] at HV HVB⊢;clear h hV hA;cases V with
 | ok v=>
  have HS:=Nc (H.out.aZ k hk v (HVB.out v rfl));have HG:=Nc (HF.out.set (7+k) (.int .u16 v));rcases ho with rfl|rfl;all_goals
   go_enter Tryz.func70,Tryz.ntmps70
   go_wp2_with fail
   go_region
   go_wp2_with fail
   go_region_with ((go_at_call 120);(with_reducible refine(HV.out _ (by first | exact H.out.drew.drew | exact H.out.drew | exact H.out)).mono ?_);rintro e w' ⟨rfl,rfl⟩)
   all_goals
    go_wp2_with fail
    first | go_end0 | refine bodyPost_ret (results_none rfl _ _ _) rfl ?_
    first
    | exact PsE.okk rfl rfl HS.out HG.out
    | exact PsE.okk rfl rfl HS.out.drew HG.out.drew
    | exact PsE.okk rfl rfl HS.out.drew.drew HG.out.drew.drew
 | tr t i=>
  have HS:=Nc (fun W (hm:Mq E sv ov S S.sp t i W)=>hm.aZ k hk 0 ⟨by decide,by decide⟩);have HU:=Nc (fun W (hm:Mq E sv ov S S.sp t i W)=>hm.cR k hk);rcases ho with rfl|rfl;all_goals
   go_enter Tryz.func70,Tryz.ntmps70
   go_wp2_with fail
   go_region
   go_wp2_with fail
   go_region_with ((go_at_call 120);(with_reducible refine(HV.out _ (by first | exact H.out.drew.drew | exact H.out.drew | exact H.out)).mono ?_);rintro e w' ⟨rfl,hm',hf'⟩;have HX:=Nc (And.intro hm' hf');have m1:=ae (hf'.keep (by first | exact H.out.drew.drew | exact H.out.drew | exact H.out) HB.out) 1 (.int .i64 (k:Int)) rfl;have m5:=ae (hf'.keep (by first | exact H.out.drew.drew | exact H.out.drew | exact H.out) HB.out) 5 (.int .i64 bk) rfl;have mf:=hm'.frz;have mc:=HU.out _ hm';clear hm' hf')
   all_goals
    go_wp2_with fail
    first | go_end0 | refine bodyPost_ret (results_none rfl _ _ _) rfl ?_
    first
    | exact PsE.trr rfl rfl (HS.out _ HX.out.1) ⟨rfl,rfl,fun _ _=>rfl⟩ ((HF.out.trans (by first | exact HX.out.2 | exact(Frq.below (Below.refl _ _).drew).trans HX.out.2 | exact(Frq.below (Below.refl _ _).drew.drew).trans HX.out.2)).set _ _)
    | exact PsE.trr rfl rfl (HS.out _ HX.out.1).drew ⟨rfl,rfl,fun _ _=>rfl⟩ ((HF.out.trans (by first | exact HX.out.2 | exact(Frq.below (Below.refl _ _).drew).trans HX.out.2 | exact(Frq.below (Below.refl _ _).drew.drew).trans HX.out.2)).set _ _).drew
set_option maxHeartbeats 4000000 in
theorem CE(k j:Nat)(im ax bk sz:Int)(h:Mq E sv ov S S.sp 0 0 w)(hk:k < 8)(hj:j < 8)(hm:U16 im)(hx:U16 ax)(b0:0≤bk)(b1:bk < 256):
 Calls Tryz.prog 70 #[.pointer (some ⟨E.b,0,none⟩),.agg #[.int .i64 85,.int .i64 (k:Int),.int .i64 (j:Int),.int .u16 im,.int .u16 ax,.int .i64 bk,.int .i64 sz]] w (PsE E sv ov S w ((byP bQ (eY S) (atP S ⟨85,k,j,im,ax,bk,sz⟩)).to (aZ S k))):=by
 obtain⟨n0,n1,n2,n3,n4,n5,n6⟩:=aG w 85 k j im ax bk sz;have HB:=Nc (heap_alloc_new w (.cells #[.int .i64 85,.int .i64 (k:Int),.int .i64 (j:Int),.int .u16 im,.int .u16 ax,.int .i64 bk,.int .i64 sz] 58));have H:=Nc (h.alloc (.cells #[.int .i64 85,.int .i64 (k:Int),.int .i64 (j:Int),.int .u16 im,.int .u16 ax,.int .i64 bk,.int .i64 sz] 58));have HF:=Nc ((Frq.refl E sv ov w).alloc (.cells #[.int .i64 85,.int .i64 (k:Int),.int .i64 (j:Int),.int .u16 im,.int .u16 ax,.int .i64 bk,.int .i64 sz] 58));have hne:E.b≠w.heap.size:=by have:=h.lt;omega
 have hk8:(k:Int) < 8:=by omega
 have hj8:(j:Int) < 8:=by omega
 have cR:=H.out.cR k hk;have cS:=H.out.cR j hj;have hf:=H.out.frz;have HR:=Nc (h.ok.r k hk);have HO:=Nc h.ok;obtain⟨s0,s1⟩:=h.ok.r j hj;obtain⟨m0,m1⟩:=hm;have hU:U16 (atP S ⟨85,k,j,im,ax,bk,sz⟩):=by unfold atP;split;exact⟨m0,m1⟩;exact dU _
 have hA:atP S ⟨85,k,j,im,ax,bk,sz⟩=im:=zk S _ _ _ _ _ _ _ (by omega);rw[hA] at hU⊢;obtain⟨a,ha⟩:∃ a,im=a:=⟨_,rfl⟩;subst ha;have HV:=Nc (fun W (hm:Mq E sv ov S S.sp 0 0 W)=>yG im hm hU);have HVB:=Nc (fun (v:Int) (hv:byP bQ (eY S) (im)= .ok v)=>zh HO.out hv);obtain⟨V,hV⟩:∃ V,byP bQ (eY S) (im)=V:=⟨_,rfl⟩;rw[hV] at HV HVB⊢;clear h hV hA;cases V with
 | ok v=>
  have HS:=Nc (H.out.aZ k hk v (HVB.out v rfl));have HG:=Nc (HF.out.set (7+k) (.int .u16 v));go_enter Tryz.func70,Tryz.ntmps70
  go_wp2_with fail
  go_region_with ((go_at_call 120);(with_reducible refine(HV.out _ (by first | exact H.out.drew.drew | exact H.out.drew | exact H.out)).mono ?_);rintro e w' ⟨rfl,rfl⟩)
  all_goals
   go_wp2_with fail
   first | go_end0 | refine bodyPost_ret (results_none rfl _ _ _) rfl ?_
   first
   | exact PsE.okk rfl rfl HS.out HG.out
   | exact PsE.okk rfl rfl HS.out.drew HG.out.drew
   | exact PsE.okk rfl rfl HS.out.drew.drew HG.out.drew.drew
 | tr t i=>
  have HS:=Nc (fun W (hm:Mq E sv ov S S.sp t i W)=>hm.aZ k hk 0 ⟨by decide,by decide⟩);have HU:=Nc (fun W (hm:Mq E sv ov S S.sp t i W)=>hm.cR k hk);go_enter Tryz.func70,Tryz.ntmps70
  go_wp2_with fail
  go_region_with ((go_at_call 120);(with_reducible refine(HV.out _ (by first | exact H.out.drew.drew | exact H.out.drew | exact H.out)).mono ?_);rintro e w' ⟨rfl,hm',hf'⟩;have HX:=Nc (And.intro hm' hf');have m1:=ae (hf'.keep (by first | exact H.out.drew.drew | exact H.out.drew | exact H.out) HB.out) 1 (.int .i64 (k:Int)) rfl;have m5:=ae (hf'.keep (by first | exact H.out.drew.drew | exact H.out.drew | exact H.out) HB.out) 5 (.int .i64 bk) rfl;have mf:=hm'.frz;have mc:=HU.out _ hm';clear hm' hf')
  all_goals
   go_wp2_with fail
   first | go_end0 | refine bodyPost_ret (results_none rfl _ _ _) rfl ?_
   first
   | exact PsE.trr rfl rfl (HS.out _ HX.out.1) ⟨rfl,rfl,fun _ _=>rfl⟩ ((HF.out.trans (by first | exact HX.out.2 | exact(Frq.below (Below.refl _ _).drew).trans HX.out.2 | exact(Frq.below (Below.refl _ _).drew.drew).trans HX.out.2)).set _ _)
   | exact PsE.trr rfl rfl (HS.out _ HX.out.1).drew ⟨rfl,rfl,fun _ _=>rfl⟩ ((HF.out.trans (by first | exact HX.out.2 | exact(Frq.below (Below.refl _ _).drew).trans HX.out.2 | exact(Frq.below (Below.refl _ _).drew.drew).trans HX.out.2)).set _ _).drew
set_option maxHeartbeats 4000000 in
theorem FW(k j:Nat)(im ax bk sz:Int)(h:Mq E sv ov S S.sp 0 0 w)(hk:k < 8)(hj:j < 8)(hm:U16 im)(hx:U16 ax)(b0:0≤bk)(b1:bk < 256):
 Calls Tryz.prog 70 #[.pointer (some ⟨E.b,0,none⟩),.agg #[.int .i64 146,.int .i64 (k:Int),.int .i64 (j:Int),.int .u16 im,.int .u16 ax,.int .i64 bk,.int .i64 sz]] w (PsE E sv ov S w ((wdP (eu E.I bk) (fO E.I bk) (atP S ⟨146,k,j,im,ax,bk,sz⟩)).to (aZ S k))):=by
 obtain⟨n0,n1,n2,n3,n4,n5,n6⟩:=aG w 146 k j im ax bk sz;have HB:=Nc (heap_alloc_new w (.cells #[.int .i64 146,.int .i64 (k:Int),.int .i64 (j:Int),.int .u16 im,.int .u16 ax,.int .i64 bk,.int .i64 sz] 58));have H:=Nc (h.alloc (.cells #[.int .i64 146,.int .i64 (k:Int),.int .i64 (j:Int),.int .u16 im,.int .u16 ax,.int .i64 bk,.int .i64 sz] 58));have HF:=Nc ((Frq.refl E sv ov w).alloc (.cells #[.int .i64 146,.int .i64 (k:Int),.int .i64 (j:Int),.int .u16 im,.int .u16 ax,.int .i64 bk,.int .i64 sz] 58));have hne:E.b≠w.heap.size:=by have:=h.lt;omega
 have hk8:(k:Int) < 8:=by omega
 have hj8:(j:Int) < 8:=by omega
 have cR:=H.out.cR k hk;have cS:=H.out.cR j hj;have hf:=H.out.frz;have HR:=Nc (h.ok.r k hk);have HO:=Nc h.ok;obtain⟨s0,s1⟩:=h.ok.r j hj;obtain⟨m0,m1⟩:=hm;have hU:U16 (atP S ⟨146,k,j,im,ax,bk,sz⟩):=by unfold atP;split;exact⟨m0,m1⟩;exact dU _
 have hA:atP S ⟨146,k,j,im,ax,bk,sz⟩=(S.r j+im)%65536:=qX S _ _ _ _ _ _ _ (by omega);have hw0:IntKind.u16.wrap (S.r j+im)=(S.r j+im)%65536:=IntKind.wrap_u16 _;rw[hA] at hU⊢;obtain⟨a,ha⟩:∃ a,(S.r j+im)%65536=a:=⟨_,rfl⟩;rw[ha] at hU hw0⊢;clear ha;have HV:=Nc (fun W (hm:Mq E sv ov S S.sp 0 0 W)=>IK a bk hm hU b0 b1);have HVB:=Nc (fun (v:Int) (hv:wdP (eu E.I bk) (fO E.I bk) (a)= .ok v)=>pz (fun x hx=>ay _ _) hv);obtain⟨V,hV⟩:∃ V,wdP (eu E.I bk) (fO E.I bk) (a)=V:=⟨_,rfl⟩;rw[hV] at HV HVB⊢;clear h hV hA;cases V with
 | ok v=>
  have HS:=Nc (H.out.aZ k hk v (HVB.out v rfl));have HG:=Nc (HF.out.set (7+k) (.int .u16 v));go_enter Tryz.func70,Tryz.ntmps70
  go_wp2_with fail
  go_region
  go_wp2_with fail
  go_region_with ((go_at_call 122);(with_reducible refine(HV.out _ (by first | exact H.out.drew.drew | exact H.out.drew | exact H.out)).mono ?_);rintro e w' ⟨rfl,rfl⟩)
  all_goals
   go_wp2_with fail
   first | go_end0 | refine bodyPost_ret (results_none rfl _ _ _) rfl ?_
   first
   | exact PsE.okk rfl rfl HS.out HG.out
   | exact PsE.okk rfl rfl HS.out.drew HG.out.drew
   | exact PsE.okk rfl rfl HS.out.drew.drew HG.out.drew.drew
 | tr t i=>
  have HS:=Nc (fun W (hm:Mq E sv ov S S.sp t i W)=>hm.aZ k hk 0 ⟨by decide,by decide⟩);have HU:=Nc (fun W (hm:Mq E sv ov S S.sp t i W)=>hm.cR k hk);go_enter Tryz.func70,Tryz.ntmps70
  go_wp2_with fail
  go_region
  go_wp2_with fail
  go_region_with ((go_at_call 122);(with_reducible refine(HV.out _ (by first | exact H.out.drew.drew | exact H.out.drew | exact H.out)).mono ?_);rintro e w' ⟨rfl,hm',hf'⟩;have HX:=Nc (And.intro hm' hf');have m1:=ae (hf'.keep (by first | exact H.out.drew.drew | exact H.out.drew | exact H.out) HB.out) 1 (.int .i64 (k:Int)) rfl;have m5:=ae (hf'.keep (by first | exact H.out.drew.drew | exact H.out.drew | exact H.out) HB.out) 5 (.int .i64 bk) rfl;have mf:=hm'.frz;have mc:=HU.out _ hm';clear hm' hf')
  all_goals
   go_wp2_with fail
   first | go_end0 | refine bodyPost_ret (results_none rfl _ _ _) rfl ?_
   first
   | exact PsE.trr rfl rfl (HS.out _ HX.out.1) ⟨rfl,rfl,fun _ _=>rfl⟩ ((HF.out.trans (by first | exact HX.out.2 | exact(Frq.below (Below.refl _ _).drew).trans HX.out.2 | exact(Frq.below (Below.refl _ _).drew.drew).trans HX.out.2)).set _ _)
   | exact PsE.trr rfl rfl (HS.out _ HX.out.1).drew ⟨rfl,rfl,fun _ _=>rfl⟩ ((HF.out.trans (by first | exact HX.out.2 | exact(Frq.below (Below.refl _ _).drew).trans HX.out.2 | exact(Frq.below (Below.refl _ _).drew.drew).trans HX.out.2)).set _ _).drew
set_option maxHeartbeats 4000000 in
theorem FX(k j:Nat)(im ax bk sz:Int)(h:Mq E sv ov S S.sp 0 0 w)(hk:k < 8)(hj:j < 8)(hm:U16 im)(hx:U16 ax)(b0:0≤bk)(b1:bk < 256):
 Calls Tryz.prog 70 #[.pointer (some ⟨E.b,0,none⟩),.agg #[.int .i64 147,.int .i64 (k:Int),.int .i64 (j:Int),.int .u16 im,.int .u16 ax,.int .i64 bk,.int .i64 sz]] w (PsE E sv ov S w ((byP (eu E.I bk) (fO E.I bk) (atP S ⟨147,k,j,im,ax,bk,sz⟩)).to (aZ S k))):=by
 obtain⟨n0,n1,n2,n3,n4,n5,n6⟩:=aG w 147 k j im ax bk sz;have HB:=Nc (heap_alloc_new w (.cells #[.int .i64 147,.int .i64 (k:Int),.int .i64 (j:Int),.int .u16 im,.int .u16 ax,.int .i64 bk,.int .i64 sz] 58));have H:=Nc (h.alloc (.cells #[.int .i64 147,.int .i64 (k:Int),.int .i64 (j:Int),.int .u16 im,.int .u16 ax,.int .i64 bk,.int .i64 sz] 58));have HF:=Nc ((Frq.refl E sv ov w).alloc (.cells #[.int .i64 147,.int .i64 (k:Int),.int .i64 (j:Int),.int .u16 im,.int .u16 ax,.int .i64 bk,.int .i64 sz] 58));have hne:E.b≠w.heap.size:=by have:=h.lt;omega
 have hk8:(k:Int) < 8:=by omega
 have hj8:(j:Int) < 8:=by omega
 have cR:=H.out.cR k hk;have cS:=H.out.cR j hj;have hf:=H.out.frz;have HR:=Nc (h.ok.r k hk);have HO:=Nc h.ok;obtain⟨s0,s1⟩:=h.ok.r j hj;obtain⟨m0,m1⟩:=hm;have hU:U16 (atP S ⟨147,k,j,im,ax,bk,sz⟩):=by unfold atP;split;exact⟨m0,m1⟩;exact dU _
 have hA:atP S ⟨147,k,j,im,ax,bk,sz⟩=(S.r j+im)%65536:=qX S _ _ _ _ _ _ _ (by omega);have hw0:IntKind.u16.wrap (S.r j+im)=(S.r j+im)%65536:=IntKind.wrap_u16 _;rw[hA] at hU⊢;obtain⟨a,ha⟩:∃ a,(S.r j+im)%65536=a:=⟨_,rfl⟩;rw[ha] at hU hw0⊢;clear ha;have HV:=Nc (fun W (hm:Mq E sv ov S S.sp 0 0 W)=>IL a bk hm hU b0 b1);have HVB:=Nc (fun (v:Int) (hv:byP (eu E.I bk) (fO E.I bk) (a)= .ok v)=>GL (fun x=>ay _ _) hv);obtain⟨V,hV⟩:∃ V,byP (eu E.I bk) (fO E.I bk) (a)=V:=⟨_,rfl⟩;rw[hV] at HV HVB⊢;clear h hV hA;cases V with
 | ok v=>
  have HS:=Nc (H.out.aZ k hk v (HVB.out v rfl));have HG:=Nc (HF.out.set (7+k) (.int .u16 v));go_enter Tryz.func70,Tryz.ntmps70
  go_wp2_with fail
  go_region
  go_wp2_with fail
  go_region_with ((go_at_call 122);(with_reducible refine(HV.out _ (by first | exact H.out.drew.drew | exact H.out.drew | exact H.out)).mono ?_);rintro e w' ⟨rfl,rfl⟩)
  all_goals
   go_wp2_with fail
   first | go_end0 | refine bodyPost_ret (results_none rfl _ _ _) rfl ?_
   first
   | exact PsE.okk rfl rfl HS.out HG.out
   | exact PsE.okk rfl rfl HS.out.drew HG.out.drew
   | exact PsE.okk rfl rfl HS.out.drew.drew HG.out.drew.drew
 | tr t i=>
  have HS:=Nc (fun W (hm:Mq E sv ov S S.sp t i W)=>hm.aZ k hk 0 ⟨by decide,by decide⟩);have HU:=Nc (fun W (hm:Mq E sv ov S S.sp t i W)=>hm.cR k hk);go_enter Tryz.func70,Tryz.ntmps70
  go_wp2_with fail
  go_region
  go_wp2_with fail
  go_region_with ((go_at_call 122);(with_reducible refine(HV.out _ (by first | exact H.out.drew.drew | exact H.out.drew | exact H.out)).mono ?_);rintro e w' ⟨rfl,hm',hf'⟩;have HX:=Nc (And.intro hm' hf');have m1:=ae (hf'.keep (by first | exact H.out.drew.drew | exact H.out.drew | exact H.out) HB.out) 1 (.int .i64 (k:Int)) rfl;have m5:=ae (hf'.keep (by first | exact H.out.drew.drew | exact H.out.drew | exact H.out) HB.out) 5 (.int .i64 bk) rfl;have mf:=hm'.frz;have mc:=HU.out _ hm';clear hm' hf')
  all_goals
   go_wp2_with fail
   first | go_end0 | refine bodyPost_ret (results_none rfl _ _ _) rfl ?_
   first
   | exact PsE.trr rfl rfl (HS.out _ HX.out.1) ⟨rfl,rfl,fun _ _=>rfl⟩ ((HF.out.trans (by first | exact HX.out.2 | exact(Frq.below (Below.refl _ _).drew).trans HX.out.2 | exact(Frq.below (Below.refl _ _).drew.drew).trans HX.out.2)).set _ _)
   | exact PsE.trr rfl rfl (HS.out _ HX.out.1).drew ⟨rfl,rfl,fun _ _=>rfl⟩ ((HF.out.trans (by first | exact HX.out.2 | exact(Frq.below (Below.refl _ _).drew).trans HX.out.2 | exact(Frq.below (Below.refl _ _).drew.drew).trans HX.out.2)).set _ _).drew
set_option maxHeartbeats 4000000 in
theorem yJ(op:Int)(ho:op=82∨op=90)(k j:Nat)(im ax bk sz:Int)(h:Mq E sv ov S S.sp 0 0 w)(hk:k < 8)(hj:j < 8)(hm:U16 im)(hx:U16 ax)(b0:0≤bk)(b1:bk < 256):
 Calls Tryz.prog 70 #[.pointer (some ⟨E.b,0,none⟩),.agg #[.int .i64 op,.int .i64 (k:Int),.int .i64 (j:Int),.int .u16 im,.int .u16 ax,.int .i64 bk,.int .i64 sz]] w (PsE E sv ov S w (stW S (atP S ⟨op,k,j,im,ax,bk,sz⟩) (S.r k))):=by
 obtain⟨n0,n1,n2,n3,n4,n5,n6⟩:=aG w op k j im ax bk sz;have HB:=Nc (heap_alloc_new w (.cells #[.int .i64 op,.int .i64 (k:Int),.int .i64 (j:Int),.int .u16 im,.int .u16 ax,.int .i64 bk,.int .i64 sz] 58));have H:=Nc (h.alloc (.cells #[.int .i64 op,.int .i64 (k:Int),.int .i64 (j:Int),.int .u16 im,.int .u16 ax,.int .i64 bk,.int .i64 sz] 58));have HF:=Nc ((Frq.refl E sv ov w).alloc (.cells #[.int .i64 op,.int .i64 (k:Int),.int .i64 (j:Int),.int .u16 im,.int .u16 ax,.int .i64 bk,.int .i64 sz] 58));have hne:E.b≠w.heap.size:=by have:=h.lt;omega
 have hk8:(k:Int) < 8:=by omega
 have hj8:(j:Int) < 8:=by omega
 have cR:=H.out.cR k hk;have cS:=H.out.cR j hj;have hf:=H.out.frz;have HR:=Nc (h.ok.r k hk);have HO:=Nc h.ok;obtain⟨s0,s1⟩:=h.ok.r j hj;obtain⟨m0,m1⟩:=hm;have hU:U16 (atP S ⟨op,k,j,im,ax,bk,sz⟩):=by unfold atP;split;exact⟨m0,m1⟩;exact dU _
 have hA:atP S ⟨op,k,j,im,ax,bk,sz⟩=(S.r j+im)%65536:=qX S _ _ _ _ _ _ _ (by omega);have hw0:IntKind.u16.wrap (S.r j+im)=(S.r j+im)%65536:=IntKind.wrap_u16 _;rw[hA] at hU⊢;obtain⟨a,ha⟩:∃ a,(S.r j+im)%65536=a:=⟨_,rfl⟩;rw[ha] at hU hw0⊢;clear ha;have HV:=Nc (fun W (hm:Mq E sv ov S S.sp 0 0 W)=>qj a (S.r k) hm hU HR.out);obtain⟨V,hV⟩:∃ V,stW S (a) (S.r k)=V:=⟨_,rfl⟩;rw[hV] at HV⊢;obtain⟨x,hxe⟩:∃ x,S.r k=x:=⟨_,rfl⟩;rw[hxe] at cR HV;clear hxe;clear h hV hA;cases V with
 | ok S'=>
  rcases ho with rfl|rfl;all_goals
   go_enter Tryz.func70,Tryz.ntmps70
   go_wp2_with fail
   go_region
   go_wp2_with fail
   go_region_with ((go_at_call 121);(with_reducible refine(HV.out _ (by first | exact H.out.drew.drew | exact H.out.drew | exact H.out)).mono ?_);rintro e w' ⟨rfl,hm',hf'⟩;have HX:=Nc (And.intro hm' hf');clear hm' hf')
   all_goals
    go_wp2_with fail
    first | go_end0 | refine bodyPost_ret (results_none rfl _ _ _) rfl ?_
    first
    | exact PsE.okk rfl rfl HX.out.1 (HF.out.trans (by first | exact HX.out.2 | exact(Frq.below (Below.refl _ _).drew).trans HX.out.2 | exact(Frq.below (Below.refl _ _).drew.drew).trans HX.out.2))
    | exact PsE.okk rfl rfl HX.out.1.drew (HF.out.trans (by first | exact HX.out.2 | exact(Frq.below (Below.refl _ _).drew).trans HX.out.2 | exact(Frq.below (Below.refl _ _).drew.drew).trans HX.out.2)).drew
 | tr t i=>
  rcases ho with rfl|rfl;all_goals
   go_enter Tryz.func70,Tryz.ntmps70
   go_wp2_with fail
   go_region
   go_wp2_with fail
   go_region_with ((go_at_call 121);(with_reducible refine(HV.out _ (by first | exact H.out.drew.drew | exact H.out.drew | exact H.out)).mono ?_);rintro e w' ⟨rfl,hm',hf'⟩;have HX:=Nc (And.intro hm' hf');clear hm' hf')
   all_goals
    go_wp2_with fail
    first | go_end0 | refine bodyPost_ret (results_none rfl _ _ _) rfl ?_
    first
    | exact PsE.trr rfl rfl HX.out.1 (Kp.refl S) (HF.out.trans (by first | exact HX.out.2 | exact(Frq.below (Below.refl _ _).drew).trans HX.out.2 | exact(Frq.below (Below.refl _ _).drew.drew).trans HX.out.2))
    | exact PsE.trr rfl rfl HX.out.1.drew (Kp.refl S) (HF.out.trans (by first | exact HX.out.2 | exact(Frq.below (Below.refl _ _).drew).trans HX.out.2 | exact(Frq.below (Below.refl _ _).drew.drew).trans HX.out.2)).drew
set_option maxHeartbeats 4000000 in
theorem Cj(k j:Nat)(im ax bk sz:Int)(h:Mq E sv ov S S.sp 0 0 w)(hk:k < 8)(hj:j < 8)(hm:U16 im)(hx:U16 ax)(b0:0≤bk)(b1:bk < 256):
 Calls Tryz.prog 70 #[.pointer (some ⟨E.b,0,none⟩),.agg #[.int .i64 86,.int .i64 (k:Int),.int .i64 (j:Int),.int .u16 im,.int .u16 ax,.int .i64 bk,.int .i64 sz]] w (PsE E sv ov S w (stW S (atP S ⟨86,k,j,im,ax,bk,sz⟩) (S.r k))):=by
 obtain⟨n0,n1,n2,n3,n4,n5,n6⟩:=aG w 86 k j im ax bk sz;have HB:=Nc (heap_alloc_new w (.cells #[.int .i64 86,.int .i64 (k:Int),.int .i64 (j:Int),.int .u16 im,.int .u16 ax,.int .i64 bk,.int .i64 sz] 58));have H:=Nc (h.alloc (.cells #[.int .i64 86,.int .i64 (k:Int),.int .i64 (j:Int),.int .u16 im,.int .u16 ax,.int .i64 bk,.int .i64 sz] 58));have HF:=Nc ((Frq.refl E sv ov w).alloc (.cells #[.int .i64 86,.int .i64 (k:Int),.int .i64 (j:Int),.int .u16 im,.int .u16 ax,.int .i64 bk,.int .i64 sz] 58));have hne:E.b≠w.heap.size:=by have:=h.lt;omega
 have hk8:(k:Int) < 8:=by omega
 have hj8:(j:Int) < 8:=by omega
 have cR:=H.out.cR k hk;have cS:=H.out.cR j hj;have hf:=H.out.frz;have HR:=Nc (h.ok.r k hk);have HO:=Nc h.ok;obtain⟨s0,s1⟩:=h.ok.r j hj;obtain⟨m0,m1⟩:=hm;have hU:U16 (atP S ⟨86,k,j,im,ax,bk,sz⟩):=by unfold atP;split;exact⟨m0,m1⟩;exact dU _
 have hA:atP S ⟨86,k,j,im,ax,bk,sz⟩=im:=zk S _ _ _ _ _ _ _ (by omega);rw[hA] at hU⊢;obtain⟨a,ha⟩:∃ a,im=a:=⟨_,rfl⟩;subst ha;have HV:=Nc (fun W (hm:Mq E sv ov S S.sp 0 0 W)=>qj im (S.r k) hm hU HR.out);obtain⟨V,hV⟩:∃ V,stW S (im) (S.r k)=V:=⟨_,rfl⟩;rw[hV] at HV⊢;obtain⟨x,hxe⟩:∃ x,S.r k=x:=⟨_,rfl⟩;rw[hxe] at cR HV;clear hxe;clear h hV hA;cases V with
 | ok S'=>
  go_enter Tryz.func70,Tryz.ntmps70
  go_wp2_with fail
  go_region_with ((go_at_call 121);(with_reducible refine(HV.out _ (by first | exact H.out.drew.drew | exact H.out.drew | exact H.out)).mono ?_);rintro e w' ⟨rfl,hm',hf'⟩;have HX:=Nc (And.intro hm' hf');clear hm' hf')
  all_goals
   go_wp2_with fail
   first | go_end0 | refine bodyPost_ret (results_none rfl _ _ _) rfl ?_
   first
   | exact PsE.okk rfl rfl HX.out.1 (HF.out.trans (by first | exact HX.out.2 | exact(Frq.below (Below.refl _ _).drew).trans HX.out.2 | exact(Frq.below (Below.refl _ _).drew.drew).trans HX.out.2))
   | exact PsE.okk rfl rfl HX.out.1.drew (HF.out.trans (by first | exact HX.out.2 | exact(Frq.below (Below.refl _ _).drew).trans HX.out.2 | exact(Frq.below (Below.refl _ _).drew.drew).trans HX.out.2)).drew
 | tr t i=>
  go_enter Tryz.func70,Tryz.ntmps70
  go_wp2_with fail
  go_region_with ((go_at_call 121);(with_reducible refine(HV.out _ (by first | exact H.out.drew.drew | exact H.out.drew | exact H.out)).mono ?_);rintro e w' ⟨rfl,hm',hf'⟩;have HX:=Nc (And.intro hm' hf');clear hm' hf')
  all_goals
   go_wp2_with fail
   first | go_end0 | refine bodyPost_ret (results_none rfl _ _ _) rfl ?_
   first
   | exact PsE.trr rfl rfl HX.out.1 (Kp.refl S) (HF.out.trans (by first | exact HX.out.2 | exact(Frq.below (Below.refl _ _).drew).trans HX.out.2 | exact(Frq.below (Below.refl _ _).drew.drew).trans HX.out.2))
   | exact PsE.trr rfl rfl HX.out.1.drew (Kp.refl S) (HF.out.trans (by first | exact HX.out.2 | exact(Frq.below (Below.refl _ _).drew).trans HX.out.2 | exact(Frq.below (Below.refl _ _).drew.drew).trans HX.out.2)).drew
set_option maxHeartbeats 4000000 in
theorem yK(op:Int)(ho:op=83∨op=91)(k j:Nat)(im ax bk sz:Int)(h:Mq E sv ov S S.sp 0 0 w)(hk:k < 8)(hj:j < 8)(hm:U16 im)(hx:U16 ax)(b0:0≤bk)(b1:bk < 256):
 Calls Tryz.prog 70 #[.pointer (some ⟨E.b,0,none⟩),.agg #[.int .i64 op,.int .i64 (k:Int),.int .i64 (j:Int),.int .u16 im,.int .u16 ax,.int .i64 bk,.int .i64 sz]] w (PsE E sv ov S w (stB S (atP S ⟨op,k,j,im,ax,bk,sz⟩) ((S.r k)%256))):=by
 obtain⟨n0,n1,n2,n3,n4,n5,n6⟩:=aG w op k j im ax bk sz;have HB:=Nc (heap_alloc_new w (.cells #[.int .i64 op,.int .i64 (k:Int),.int .i64 (j:Int),.int .u16 im,.int .u16 ax,.int .i64 bk,.int .i64 sz] 58));have H:=Nc (h.alloc (.cells #[.int .i64 op,.int .i64 (k:Int),.int .i64 (j:Int),.int .u16 im,.int .u16 ax,.int .i64 bk,.int .i64 sz] 58));have HF:=Nc ((Frq.refl E sv ov w).alloc (.cells #[.int .i64 op,.int .i64 (k:Int),.int .i64 (j:Int),.int .u16 im,.int .u16 ax,.int .i64 bk,.int .i64 sz] 58));have hne:E.b≠w.heap.size:=by have:=h.lt;omega
 have hk8:(k:Int) < 8:=by omega
 have hj8:(j:Int) < 8:=by omega
 have cR:=H.out.cR k hk;have cS:=H.out.cR j hj;have hf:=H.out.frz;have HR:=Nc (h.ok.r k hk);have HO:=Nc h.ok;obtain⟨s0,s1⟩:=h.ok.r j hj;obtain⟨m0,m1⟩:=hm;have hU:U16 (atP S ⟨op,k,j,im,ax,bk,sz⟩):=by unfold atP;split;exact⟨m0,m1⟩;exact dU _
 have hA:atP S ⟨op,k,j,im,ax,bk,sz⟩=(S.r j+im)%65536:=qX S _ _ _ _ _ _ _ (by omega);have hw0:IntKind.u16.wrap (S.r j+im)=(S.r j+im)%65536:=IntKind.wrap_u16 _;rw[hA] at hU⊢;obtain⟨a,ha⟩:∃ a,(S.r j+im)%65536=a:=⟨_,rfl⟩;rw[ha] at hU hw0⊢;clear ha;have HV:=Nc (fun W (hm:Mq E sv ov S S.sp 0 0 W)=>vO a (S.r k) hm hU HR.out);obtain⟨V,hV⟩:∃ V,stB S (a) ((S.r k)%256)=V:=⟨_,rfl⟩;rw[hV] at HV⊢;obtain⟨x,hxe⟩:∃ x,S.r k=x:=⟨_,rfl⟩;rw[hxe] at cR HV;clear hxe;clear h hV hA;cases V with
 | ok S'=>
  rcases ho with rfl|rfl;all_goals
   go_enter Tryz.func70,Tryz.ntmps70
   go_wp2_with fail
   go_region
   go_wp2_with fail
   go_region_with ((go_at_call 121);(with_reducible refine(HV.out _ (by first | exact H.out.drew.drew | exact H.out.drew | exact H.out)).mono ?_);rintro e w' ⟨rfl,hm',hf'⟩;have HX:=Nc (And.intro hm' hf');clear hm' hf')
   all_goals
    go_wp2_with fail
    first | go_end0 | refine bodyPost_ret (results_none rfl _ _ _) rfl ?_
    first
    | exact PsE.okk rfl rfl HX.out.1 (HF.out.trans (by first | exact HX.out.2 | exact(Frq.below (Below.refl _ _).drew).trans HX.out.2 | exact(Frq.below (Below.refl _ _).drew.drew).trans HX.out.2))
    | exact PsE.okk rfl rfl HX.out.1.drew (HF.out.trans (by first | exact HX.out.2 | exact(Frq.below (Below.refl _ _).drew).trans HX.out.2 | exact(Frq.below (Below.refl _ _).drew.drew).trans HX.out.2)).drew
 | tr t i=>
  rcases ho with rfl|rfl;all_goals
   go_enter Tryz.func70,Tryz.ntmps70
   go_wp2_with fail
   go_region
   go_wp2_with fail
   go_region_with ((go_at_call 121);(with_reducible refine(HV.out _ (by first | exact H.out.drew.drew | exact H.out.drew | exact H.out)).mono ?_);rintro e w' ⟨rfl,hm',hf'⟩;have HX:=Nc (And.intro hm' hf');clear hm' hf')
   all_goals
    go_wp2_with fail
    first | go_end0 | refine bodyPost_ret (results_none rfl _ _ _) rfl ?_
    first
    | exact PsE.trr rfl rfl HX.out.1 (Kp.refl S) (HF.out.trans (by first | exact HX.out.2 | exact(Frq.below (Below.refl _ _).drew).trans HX.out.2 | exact(Frq.below (Below.refl _ _).drew.drew).trans HX.out.2))
    | exact PsE.trr rfl rfl HX.out.1.drew (Kp.refl S) (HF.out.trans (by first | exact HX.out.2 | exact(Frq.below (Below.refl _ _).drew).trans HX.out.2 | exact(Frq.below (Below.refl _ _).drew.drew).trans HX.out.2)).drew
set_option maxHeartbeats 4000000 in
theorem Cm(k j:Nat)(im ax bk sz:Int)(h:Mq E sv ov S S.sp 0 0 w)(hk:k < 8)(hj:j < 8)(hm:U16 im)(hx:U16 ax)(b0:0≤bk)(b1:bk < 256):
 Calls Tryz.prog 70 #[.pointer (some ⟨E.b,0,none⟩),.agg #[.int .i64 87,.int .i64 (k:Int),.int .i64 (j:Int),.int .u16 im,.int .u16 ax,.int .i64 bk,.int .i64 sz]] w (PsE E sv ov S w (stB S (atP S ⟨87,k,j,im,ax,bk,sz⟩) ((S.r k)%256))):=by
 obtain⟨n0,n1,n2,n3,n4,n5,n6⟩:=aG w 87 k j im ax bk sz;have HB:=Nc (heap_alloc_new w (.cells #[.int .i64 87,.int .i64 (k:Int),.int .i64 (j:Int),.int .u16 im,.int .u16 ax,.int .i64 bk,.int .i64 sz] 58));have H:=Nc (h.alloc (.cells #[.int .i64 87,.int .i64 (k:Int),.int .i64 (j:Int),.int .u16 im,.int .u16 ax,.int .i64 bk,.int .i64 sz] 58));have HF:=Nc ((Frq.refl E sv ov w).alloc (.cells #[.int .i64 87,.int .i64 (k:Int),.int .i64 (j:Int),.int .u16 im,.int .u16 ax,.int .i64 bk,.int .i64 sz] 58));have hne:E.b≠w.heap.size:=by have:=h.lt;omega
 have hk8:(k:Int) < 8:=by omega
 have hj8:(j:Int) < 8:=by omega
 have cR:=H.out.cR k hk;have cS:=H.out.cR j hj;have hf:=H.out.frz;have HR:=Nc (h.ok.r k hk);have HO:=Nc h.ok;obtain⟨s0,s1⟩:=h.ok.r j hj;obtain⟨m0,m1⟩:=hm;have hU:U16 (atP S ⟨87,k,j,im,ax,bk,sz⟩):=by unfold atP;split;exact⟨m0,m1⟩;exact dU _
 have hA:atP S ⟨87,k,j,im,ax,bk,sz⟩=im:=zk S _ _ _ _ _ _ _ (by omega);rw[hA] at hU⊢;obtain⟨a,ha⟩:∃ a,im=a:=⟨_,rfl⟩;subst ha;have HV:=Nc (fun W (hm:Mq E sv ov S S.sp 0 0 W)=>vO im (S.r k) hm hU HR.out);obtain⟨V,hV⟩:∃ V,stB S (im) ((S.r k)%256)=V:=⟨_,rfl⟩;rw[hV] at HV⊢;obtain⟨x,hxe⟩:∃ x,S.r k=x:=⟨_,rfl⟩;rw[hxe] at cR HV;clear hxe;clear h hV hA;cases V with
 | ok S'=>
  go_enter Tryz.func70,Tryz.ntmps70
  go_wp2_with fail
  go_region_with ((go_at_call 121);(with_reducible refine(HV.out _ (by first | exact H.out.drew.drew | exact H.out.drew | exact H.out)).mono ?_);rintro e w' ⟨rfl,hm',hf'⟩;have HX:=Nc (And.intro hm' hf');clear hm' hf')
  all_goals
   go_wp2_with fail
   first | go_end0 | refine bodyPost_ret (results_none rfl _ _ _) rfl ?_
   first
   | exact PsE.okk rfl rfl HX.out.1 (HF.out.trans (by first | exact HX.out.2 | exact(Frq.below (Below.refl _ _).drew).trans HX.out.2 | exact(Frq.below (Below.refl _ _).drew.drew).trans HX.out.2))
   | exact PsE.okk rfl rfl HX.out.1.drew (HF.out.trans (by first | exact HX.out.2 | exact(Frq.below (Below.refl _ _).drew).trans HX.out.2 | exact(Frq.below (Below.refl _ _).drew.drew).trans HX.out.2)).drew
 | tr t i=>
  go_enter Tryz.func70,Tryz.ntmps70
  go_wp2_with fail
  go_region_with ((go_at_call 121);(with_reducible refine(HV.out _ (by first | exact H.out.drew.drew | exact H.out.drew | exact H.out)).mono ?_);rintro e w' ⟨rfl,hm',hf'⟩;have HX:=Nc (And.intro hm' hf');clear hm' hf')
  all_goals
   go_wp2_with fail
   first | go_end0 | refine bodyPost_ret (results_none rfl _ _ _) rfl ?_
   first
   | exact PsE.trr rfl rfl HX.out.1 (Kp.refl S) (HF.out.trans (by first | exact HX.out.2 | exact(Frq.below (Below.refl _ _).drew).trans HX.out.2 | exact(Frq.below (Below.refl _ _).drew.drew).trans HX.out.2))
   | exact PsE.trr rfl rfl HX.out.1.drew (Kp.refl S) (HF.out.trans (by first | exact HX.out.2 | exact(Frq.below (Below.refl _ _).drew).trans HX.out.2 | exact(Frq.below (Below.refl _ _).drew.drew).trans HX.out.2)).drew
set_option maxHeartbeats 4000000 in
theorem FV(k j:Nat)(im ax bk sz:Int)(h:Mq E sv ov S S.sp 0 0 w)(hk:k < 8)(hj:j < 8)(hm:U16 im)(hx:U16 ax)(b0:0≤bk)(b1:bk < 256):
 Calls Tryz.prog 70 #[.pointer (some ⟨E.b,0,none⟩),.agg #[.int .i64 150,.int .i64 (k:Int),.int .i64 (j:Int),.int .u16 im,.int .u16 ax,.int .i64 bk,.int .i64 sz]] w (PsE E sv ov S w (stW S (atP S ⟨150,k,j,im,ax,bk,sz⟩) ax)):=by
 obtain⟨n0,n1,n2,n3,n4,n5,n6⟩:=aG w 150 k j im ax bk sz;have HB:=Nc (heap_alloc_new w (.cells #[.int .i64 150,.int .i64 (k:Int),.int .i64 (j:Int),.int .u16 im,.int .u16 ax,.int .i64 bk,.int .i64 sz] 58));have H:=Nc (h.alloc (.cells #[.int .i64 150,.int .i64 (k:Int),.int .i64 (j:Int),.int .u16 im,.int .u16 ax,.int .i64 bk,.int .i64 sz] 58));have HF:=Nc ((Frq.refl E sv ov w).alloc (.cells #[.int .i64 150,.int .i64 (k:Int),.int .i64 (j:Int),.int .u16 im,.int .u16 ax,.int .i64 bk,.int .i64 sz] 58));have hne:E.b≠w.heap.size:=by have:=h.lt;omega
 have hk8:(k:Int) < 8:=by omega
 have hj8:(j:Int) < 8:=by omega
 have cR:=H.out.cR k hk;have cS:=H.out.cR j hj;have hf:=H.out.frz;have HR:=Nc (h.ok.r k hk);have HO:=Nc h.ok;obtain⟨s0,s1⟩:=h.ok.r j hj;obtain⟨m0,m1⟩:=hm;have hU:U16 (atP S ⟨150,k,j,im,ax,bk,sz⟩):=by unfold atP;split;exact⟨m0,m1⟩;exact dU _
 have hA:atP S ⟨150,k,j,im,ax,bk,sz⟩=(S.r j+im)%65536:=qX S _ _ _ _ _ _ _ (by omega);have hw0:IntKind.u16.wrap (S.r j+im)=(S.r j+im)%65536:=IntKind.wrap_u16 _;rw[hA] at hU⊢;obtain⟨a,ha⟩:∃ a,(S.r j+im)%65536=a:=⟨_,rfl⟩;rw[ha] at hU hw0⊢;clear ha;have HV:=Nc (fun W (hm:Mq E sv ov S S.sp 0 0 W)=>qj a ax hm hU hx);obtain⟨V,hV⟩:∃ V,stW S (a) ax=V:=⟨_,rfl⟩;rw[hV] at HV⊢;clear h hV hA;cases V with
 | ok S'=>
  go_enter Tryz.func70,Tryz.ntmps70
  go_wp2_with fail
  go_region
  go_wp2_with fail
  (with_reducible refine(HV.out _ (by first | exact H.out.drew.drew | exact H.out.drew | exact H.out)).mono ?_)
  rintro e w' ⟨rfl,hm',hf'⟩;have HX:=Nc (And.intro hm' hf');clear hm' hf';go_wp2_with fail
  first | go_end0 | refine bodyPost_ret (results_none rfl _ _ _) rfl ?_
  first
  | exact PsE.okk rfl rfl HX.out.1 (HF.out.trans (by first | exact HX.out.2 | exact(Frq.below (Below.refl _ _).drew).trans HX.out.2 | exact(Frq.below (Below.refl _ _).drew.drew).trans HX.out.2))
  | exact PsE.okk rfl rfl HX.out.1.drew (HF.out.trans (by first | exact HX.out.2 | exact(Frq.below (Below.refl _ _).drew).trans HX.out.2 | exact(Frq.below (Below.refl _ _).drew.drew).trans HX.out.2)).drew
 | tr t i=>
  go_enter Tryz.func70,Tryz.ntmps70
  go_wp2_with fail
  go_region
  go_wp2_with fail
  (with_reducible refine(HV.out _ (by first | exact H.out.drew.drew | exact H.out.drew | exact H.out)).mono ?_)
  rintro e w' ⟨rfl,hm',hf'⟩;have HX:=Nc (And.intro hm' hf');clear hm' hf';go_wp2_with fail
  first | go_end0 | refine bodyPost_ret (results_none rfl _ _ _) rfl ?_
  first
  | exact PsE.trr rfl rfl HX.out.1 (Kp.refl S) (HF.out.trans (by first | exact HX.out.2 | exact(Frq.below (Below.refl _ _).drew).trans HX.out.2 | exact(Frq.below (Below.refl _ _).drew.drew).trans HX.out.2))
  | exact PsE.trr rfl rfl HX.out.1.drew (Kp.refl S) (HF.out.trans (by first | exact HX.out.2 | exact(Frq.below (Below.refl _ _).drew).trans HX.out.2 | exact(Frq.below (Below.refl _ _).drew.drew).trans HX.out.2)).drew
end
end Go.Proofs.YthkcloapiefggaaGreatDoor
