import Derived.Test.YthkcloapiefggaaGreatDoorQIsa
namespace Go.Proofs.YthkcloapiefggaaGreatDoor
set_option linter.unusedVariables false
set_option linter.unusedSimpArgs false
set_option maxRecDepth 100000
open Go.ChangeShapes Go.WideShapes Go.RowKit
theorem aV(l:List Int)(j:Nat)(n:Int)(h:l[j]? =some n)(n0:0≤n)(n1:n < 256):ba (bD l) j=n:=by
 unfold ba;rw[nD,List.getElem?_map,h];simp only[Option.map_some,Option.getD_some];rw[UInt8.toNat_ofNat'];omega
theorem AV(r:Row)(i:Ins)(h0:r.g0=0)(h1:r.g1=0)(h2:r.g2=0)(h3:r.g3=0)(hi:i.Ok):
  aI r (bD (ai r i))=⟨i.op%256,0,0,0,0,0,r.z⟩∧readB r (bD (ai r i))=(true && decide (0 < 8) && decide (0 < 8))∧ai r i=[i.op%256]:=by
 have m0:=hi.m0;have m1:=hi.m1;have a0:=hi.a0;have a1:=hi.a1;have hw:ai r i=[i.op%256]:=by simp[ai,wl,gk,h0,h1,h2,h3,fb]
 have b0:ba (bD [i.op%256]) 0=i.op%256:=aV _ 0 _ rfl (by omega) (by omega);refine⟨?_,?_,hw⟩
 ·rw[hw]
  simp[aI,rs,gk,h0,h1,h2,h3,aN,b0]
 ·rw[hw]
  simp[readB,rs,gk,h0,h1,h2,h3,aN,b0]
theorem AU(r:Row)(i:Ins)(h0:r.g0=1)(h1:r.g1=0)(h2:r.g2=0)(h3:r.g3=0)(hi:i.Ok):
  aI r (bD (ai r i))=⟨i.op%256,i.d%256,0,0,0,0,r.z⟩∧readB r (bD (ai r i))=(true && decide (i.d%256 < 8) && decide (0 < 8))∧ai r i=[i.op%256,i.d%256]:=by
 have m0:=hi.m0;have m1:=hi.m1;have a0:=hi.a0;have a1:=hi.a1;have hw:ai r i=[i.op%256,i.d%256]:=by simp[ai,wl,gk,h0,h1,h2,h3,fb]
 have b0:ba (bD [i.op%256,i.d%256]) 0=i.op%256:=aV _ 0 _ rfl (by omega) (by omega);have b1:ba (bD [i.op%256,i.d%256]) 1=i.d%256:=aV _ 1 _ rfl (by omega) (by omega);refine⟨?_,?_,hw⟩
 ·rw[hw]
  simp[aI,rs,gk,h0,h1,h2,h3,aN,b0,b1]
 ·rw[hw]
  simp[readB,rs,gk,h0,h1,h2,h3,aN,b0,b1]
theorem Az(r:Row)(i:Ins)(h0:r.g0=5)(h1:r.g1=0)(h2:r.g2=0)(h3:r.g3=0)(hi:i.Ok):
  aI r (bD (ai r i))=⟨i.op%256,0,0,i.im%256,0,0,r.z⟩∧readB r (bD (ai r i))=(true && decide (0 < 8) && decide (0 < 8))∧ai r i=[i.op%256,i.im%256]:=by
 have m0:=hi.m0;have m1:=hi.m1;have a0:=hi.a0;have a1:=hi.a1;have hw:ai r i=[i.op%256,i.im%256]:=by simp[ai,wl,gk,h0,h1,h2,h3,fb]
 have b0:ba (bD [i.op%256,i.im%256]) 0=i.op%256:=aV _ 0 _ rfl (by omega) (by omega);have b1:ba (bD [i.op%256,i.im%256]) 1=i.im%256:=aV _ 1 _ rfl (by omega) (by omega);refine⟨?_,?_,hw⟩
 ·rw[hw]
  simp[aI,rs,gk,h0,h1,h2,h3,aN,b0,b1]
 ·rw[hw]
  simp[readB,rs,gk,h0,h1,h2,h3,aN,b0,b1]
theorem AL(r:Row)(i:Ins)(h0:r.g0=3)(h1:r.g1=0)(h2:r.g2=0)(h3:r.g3=0)(hi:i.Ok):
  aI r (bD (ai r i))=⟨i.op%256,(16*i.d+i.s)%256/16,(16*i.d+i.s)%256%16,0,0,0,r.z⟩∧readB r (bD (ai r i))=(true && decide ((16*i.d+i.s)%256/16 < 8) && decide ((16*i.d+i.s)%256%16 < 8))∧ai r i=[i.op%256,(16*i.d+i.s)%256]:=by
 have m0:=hi.m0;have m1:=hi.m1;have a0:=hi.a0;have a1:=hi.a1;have hw:ai r i=[i.op%256,(16*i.d+i.s)%256]:=by simp[ai,wl,gk,h0,h1,h2,h3,fb]
 have b0:ba (bD [i.op%256,(16*i.d+i.s)%256]) 0=i.op%256:=aV _ 0 _ rfl (by omega) (by omega);have b1:ba (bD [i.op%256,(16*i.d+i.s)%256]) 1=(16*i.d+i.s)%256:=aV _ 1 _ rfl (by omega) (by omega);refine⟨?_,?_,hw⟩
 ·rw[hw]
  simp[aI,rs,gk,h0,h1,h2,h3,aN,b0,b1]
 ·rw[hw]
  simp[readB,rs,gk,h0,h1,h2,h3,aN,b0,b1]
theorem tu(r:Row)(i:Ins)(h0:r.g0=1)(h1:r.g1=4)(h2:r.g2=0)(h3:r.g3=0)(hi:i.Ok):
  aI r (bD (ai r i))=⟨i.op%256,i.d%256,0,dW (i.im%256),0,0,r.z⟩∧readB r (bD (ai r i))=(true && decide (i.d%256 < 8) && decide (0 < 8))∧ai r i=[i.op%256,i.d%256,i.im%256]:=by
 have m0:=hi.m0;have m1:=hi.m1;have a0:=hi.a0;have a1:=hi.a1;have hw:ai r i=[i.op%256,i.d%256,i.im%256]:=by simp[ai,wl,gk,h0,h1,h2,h3,fb]
 have b0:ba (bD [i.op%256,i.d%256,i.im%256]) 0=i.op%256:=aV _ 0 _ rfl (by omega) (by omega);have b1:ba (bD [i.op%256,i.d%256,i.im%256]) 1=i.d%256:=aV _ 1 _ rfl (by omega) (by omega);have b2:ba (bD [i.op%256,i.d%256,i.im%256]) 2=i.im%256:=aV _ 2 _ rfl (by omega) (by omega);refine⟨?_,?_,hw⟩
 ·rw[hw]
  simp[aI,rs,gk,h0,h1,h2,h3,aN,b0,b1,b2]
 ·rw[hw]
  simp[readB,rs,gk,h0,h1,h2,h3,aN,b0,b1,b2]
theorem nZ(r:Row)(i:Ins)(h0:r.g0=1)(h1:r.g1=6)(h2:r.g2=0)(h3:r.g3=0)(hi:i.Ok):
  aI r (bD (ai r i))=⟨i.op%256,i.d%256,0,i.im%256+256*(i.im/256),0,0,r.z⟩∧readB r (bD (ai r i))=(true && decide (i.d%256 < 8) && decide (0 < 8))∧ai r i=[i.op%256,i.d%256,i.im%256,i.im/256]:=by
 have m0:=hi.m0;have m1:=hi.m1;have a0:=hi.a0;have a1:=hi.a1;have hw:ai r i=[i.op%256,i.d%256,i.im%256,i.im/256]:=by simp[ai,wl,gk,h0,h1,h2,h3,fb]
 have b0:ba (bD [i.op%256,i.d%256,i.im%256,i.im/256]) 0=i.op%256:=aV _ 0 _ rfl (by omega) (by omega);have b1:ba (bD [i.op%256,i.d%256,i.im%256,i.im/256]) 1=i.d%256:=aV _ 1 _ rfl (by omega) (by omega);have b2:ba (bD [i.op%256,i.d%256,i.im%256,i.im/256]) 2=i.im%256:=aV _ 2 _ rfl (by omega) (by omega);have b3:ba (bD [i.op%256,i.d%256,i.im%256,i.im/256]) 3=i.im/256:=aV _ 3 _ rfl (by omega) (by omega);refine⟨?_,?_,hw⟩
 ·rw[hw]
  simp[aI,rs,gk,h0,h1,h2,h3,aN,b0,b1,b2,b3]
 ·rw[hw]
  simp[readB,rs,gk,h0,h1,h2,h3,aN,b0,b1,b2,b3]
theorem AC(r:Row)(i:Ins)(h0:r.g0=3)(h1:r.g1=4)(h2:r.g2=0)(h3:r.g3=0)(hi:i.Ok):
  aI r (bD (ai r i))=⟨i.op%256,(16*i.d+i.s)%256/16,(16*i.d+i.s)%256%16,dW (i.im%256),0,0,r.z⟩∧readB r (bD (ai r i))=(true && decide ((16*i.d+i.s)%256/16 < 8) && decide ((16*i.d+i.s)%256%16 < 8))∧ai r i=[i.op%256,(16*i.d+i.s)%256,i.im%256]:=by
 have m0:=hi.m0;have m1:=hi.m1;have a0:=hi.a0;have a1:=hi.a1;have hw:ai r i=[i.op%256,(16*i.d+i.s)%256,i.im%256]:=by simp[ai,wl,gk,h0,h1,h2,h3,fb]
 have b0:ba (bD [i.op%256,(16*i.d+i.s)%256,i.im%256]) 0=i.op%256:=aV _ 0 _ rfl (by omega) (by omega);have b1:ba (bD [i.op%256,(16*i.d+i.s)%256,i.im%256]) 1=(16*i.d+i.s)%256:=aV _ 1 _ rfl (by omega) (by omega);have b2:ba (bD [i.op%256,(16*i.d+i.s)%256,i.im%256]) 2=i.im%256:=aV _ 2 _ rfl (by omega) (by omega);refine⟨?_,?_,hw⟩
 ·rw[hw]
  simp[aI,rs,gk,h0,h1,h2,h3,aN,b0,b1,b2]
 ·rw[hw]
  simp[readB,rs,gk,h0,h1,h2,h3,aN,b0,b1,b2]
theorem AB(r:Row)(i:Ins)(h0:r.g0=3)(h1:r.g1=6)(h2:r.g2=0)(h3:r.g3=0)(hi:i.Ok):
  aI r (bD (ai r i))=⟨i.op%256,(16*i.d+i.s)%256/16,(16*i.d+i.s)%256%16,i.im%256+256*(i.im/256),0,0,r.z⟩∧readB r (bD (ai r i))=(true && decide ((16*i.d+i.s)%256/16 < 8) && decide ((16*i.d+i.s)%256%16 < 8))∧ai r i=[i.op%256,(16*i.d+i.s)%256,i.im%256,i.im/256]:=by
 have m0:=hi.m0;have m1:=hi.m1;have a0:=hi.a0;have a1:=hi.a1;have hw:ai r i=[i.op%256,(16*i.d+i.s)%256,i.im%256,i.im/256]:=by simp[ai,wl,gk,h0,h1,h2,h3,fb]
 have b0:ba (bD [i.op%256,(16*i.d+i.s)%256,i.im%256,i.im/256]) 0=i.op%256:=aV _ 0 _ rfl (by omega) (by omega);have b1:ba (bD [i.op%256,(16*i.d+i.s)%256,i.im%256,i.im/256]) 1=(16*i.d+i.s)%256:=aV _ 1 _ rfl (by omega) (by omega);have b2:ba (bD [i.op%256,(16*i.d+i.s)%256,i.im%256,i.im/256]) 2=i.im%256:=aV _ 2 _ rfl (by omega) (by omega);have b3:ba (bD [i.op%256,(16*i.d+i.s)%256,i.im%256,i.im/256]) 3=i.im/256:=aV _ 3 _ rfl (by omega) (by omega);refine⟨?_,?_,hw⟩
 ·rw[hw]
  simp[aI,rs,gk,h0,h1,h2,h3,aN,b0,b1,b2,b3]
 ·rw[hw]
  simp[readB,rs,gk,h0,h1,h2,h3,aN,b0,b1,b2,b3]
theorem sZ(r:Row)(i:Ins)(h0:r.g0=4)(h1:r.g1=0)(h2:r.g2=0)(h3:r.g3=0)(hi:i.Ok):
  aI r (bD (ai r i))=⟨i.op%256,0,0,dW (i.im%256),0,0,r.z⟩∧readB r (bD (ai r i))=(true && decide (0 < 8) && decide (0 < 8))∧ai r i=[i.op%256,i.im%256]:=by
 have m0:=hi.m0;have m1:=hi.m1;have a0:=hi.a0;have a1:=hi.a1;have hw:ai r i=[i.op%256,i.im%256]:=by simp[ai,wl,gk,h0,h1,h2,h3,fb]
 have b0:ba (bD [i.op%256,i.im%256]) 0=i.op%256:=aV _ 0 _ rfl (by omega) (by omega);have b1:ba (bD [i.op%256,i.im%256]) 1=i.im%256:=aV _ 1 _ rfl (by omega) (by omega);refine⟨?_,?_,hw⟩
 ·rw[hw]
  simp[aI,rs,gk,h0,h1,h2,h3,aN,b0,b1]
 ·rw[hw]
  simp[readB,rs,gk,h0,h1,h2,h3,aN,b0,b1]
theorem sW(r:Row)(i:Ins)(h0:r.g0=6)(h1:r.g1=0)(h2:r.g2=0)(h3:r.g3=0)(hi:i.Ok):
  aI r (bD (ai r i))=⟨i.op%256,0,0,i.im%256+256*(i.im/256),0,0,r.z⟩∧readB r (bD (ai r i))=(true && decide (0 < 8) && decide (0 < 8))∧ai r i=[i.op%256,i.im%256,i.im/256]:=by
 have m0:=hi.m0;have m1:=hi.m1;have a0:=hi.a0;have a1:=hi.a1;have hw:ai r i=[i.op%256,i.im%256,i.im/256]:=by simp[ai,wl,gk,h0,h1,h2,h3,fb]
 have b0:ba (bD [i.op%256,i.im%256,i.im/256]) 0=i.op%256:=aV _ 0 _ rfl (by omega) (by omega);have b1:ba (bD [i.op%256,i.im%256,i.im/256]) 1=i.im%256:=aV _ 1 _ rfl (by omega) (by omega);have b2:ba (bD [i.op%256,i.im%256,i.im/256]) 2=i.im/256:=aV _ 2 _ rfl (by omega) (by omega);refine⟨?_,?_,hw⟩
 ·rw[hw]
  simp[aI,rs,gk,h0,h1,h2,h3,aN,b0,b1,b2]
 ·rw[hw]
  simp[readB,rs,gk,h0,h1,h2,h3,aN,b0,b1,b2]
theorem Aw(r:Row)(i:Ins)(h0:r.g0=8)(h1:r.g1=6)(h2:r.g2=0)(h3:r.g3=0)(hi:i.Ok):
  aI r (bD (ai r i))=⟨i.op%256,0,0,i.im%256+256*(i.im/256),0,i.bk%256,r.z⟩∧readB r (bD (ai r i))=(decide (i.bk%256 < 64) && decide (0 < 8) && decide (0 < 8))∧ai r i=[i.op%256,i.bk%256,i.im%256,i.im/256]:=by
 have m0:=hi.m0;have m1:=hi.m1;have a0:=hi.a0;have a1:=hi.a1;have hw:ai r i=[i.op%256,i.bk%256,i.im%256,i.im/256]:=by simp[ai,wl,gk,h0,h1,h2,h3,fb]
 have b0:ba (bD [i.op%256,i.bk%256,i.im%256,i.im/256]) 0=i.op%256:=aV _ 0 _ rfl (by omega) (by omega);have b1:ba (bD [i.op%256,i.bk%256,i.im%256,i.im/256]) 1=i.bk%256:=aV _ 1 _ rfl (by omega) (by omega);have b2:ba (bD [i.op%256,i.bk%256,i.im%256,i.im/256]) 2=i.im%256:=aV _ 2 _ rfl (by omega) (by omega);have b3:ba (bD [i.op%256,i.bk%256,i.im%256,i.im/256]) 3=i.im/256:=aV _ 3 _ rfl (by omega) (by omega);refine⟨?_,?_,hw⟩
 ·rw[hw]
  simp[aI,rs,gk,h0,h1,h2,h3,aN,b0,b1,b2,b3]
 ·rw[hw]
  simp[readB,rs,gk,h0,h1,h2,h3,aN,b0,b1,b2,b3]
theorem AQ(r:Row)(i:Ins)(h0:r.g0=1)(h1:r.g1=9)(h2:r.g2=6)(h3:r.g3=7)(hi:i.Ok):
  aI r (bD (ai r i))=⟨i.op%256,i.d%256,0,i.im%256+256*(i.im/256),i.ax%256+256*(i.ax/256),i.bk%256,r.z⟩∧readB r (bD (ai r i))=(decide (0 < i.bk%256) && decide (i.d%256 < 8) && decide (0 < 8))∧ai r i=[i.op%256,i.d%256,i.bk%256,i.im%256,i.im/256,i.ax%256,i.ax/256]:=by
 have m0:=hi.m0;have m1:=hi.m1;have a0:=hi.a0;have a1:=hi.a1;have hw:ai r i=[i.op%256,i.d%256,i.bk%256,i.im%256,i.im/256,i.ax%256,i.ax/256]:=by simp[ai,wl,gk,h0,h1,h2,h3,fb]
 have b0:ba (bD [i.op%256,i.d%256,i.bk%256,i.im%256,i.im/256,i.ax%256,i.ax/256]) 0=i.op%256:=aV _ 0 _ rfl (by omega) (by omega);have b1:ba (bD [i.op%256,i.d%256,i.bk%256,i.im%256,i.im/256,i.ax%256,i.ax/256]) 1=i.d%256:=aV _ 1 _ rfl (by omega) (by omega);have b2:ba (bD [i.op%256,i.d%256,i.bk%256,i.im%256,i.im/256,i.ax%256,i.ax/256]) 2=i.bk%256:=aV _ 2 _ rfl (by omega) (by omega);have b3:ba (bD [i.op%256,i.d%256,i.bk%256,i.im%256,i.im/256,i.ax%256,i.ax/256]) 3=i.im%256:=aV _ 3 _ rfl (by omega) (by omega);have b4:ba (bD [i.op%256,i.d%256,i.bk%256,i.im%256,i.im/256,i.ax%256,i.ax/256]) 4=i.im/256:=aV _ 4 _ rfl (by omega) (by omega);have b5:ba (bD [i.op%256,i.d%256,i.bk%256,i.im%256,i.im/256,i.ax%256,i.ax/256]) 5=i.ax%256:=aV _ 5 _ rfl (by omega) (by omega);have b6:ba (bD [i.op%256,i.d%256,i.bk%256,i.im%256,i.im/256,i.ax%256,i.ax/256]) 6=i.ax/256:=aV _ 6 _ rfl (by omega) (by omega);refine⟨?_,?_,hw⟩
 ·rw[hw]
  simp[aI,rs,gk,h0,h1,h2,h3,aN,b0,b1,b2,b3,b4,b5,b6]
 ·rw[hw]
  simp[readB,rs,gk,h0,h1,h2,h3,aN,b0,b1,b2,b3,b4,b5,b6]
theorem og(r:Row)(i:Ins)(h0:r.g0=1)(h1:r.g1=5)(h2:r.g2=0)(h3:r.g3=0)(hi:i.Ok):
  aI r (bD (ai r i))=⟨i.op%256,i.d%256,0,i.im%256,0,0,r.z⟩∧readB r (bD (ai r i))=(true && decide (i.d%256 < 8) && decide (0 < 8))∧ai r i=[i.op%256,i.d%256,i.im%256]:=by
 have m0:=hi.m0;have m1:=hi.m1;have a0:=hi.a0;have a1:=hi.a1;have hw:ai r i=[i.op%256,i.d%256,i.im%256]:=by simp[ai,wl,gk,h0,h1,h2,h3,fb]
 have b0:ba (bD [i.op%256,i.d%256,i.im%256]) 0=i.op%256:=aV _ 0 _ rfl (by omega) (by omega);have b1:ba (bD [i.op%256,i.d%256,i.im%256]) 1=i.d%256:=aV _ 1 _ rfl (by omega) (by omega);have b2:ba (bD [i.op%256,i.d%256,i.im%256]) 2=i.im%256:=aV _ 2 _ rfl (by omega) (by omega);refine⟨?_,?_,hw⟩
 ·rw[hw]
  simp[aI,rs,gk,h0,h1,h2,h3,aN,b0,b1,b2]
 ·rw[hw]
  simp[readB,rs,gk,h0,h1,h2,h3,aN,b0,b1,b2]
theorem AA(r:Row)(i:Ins)(h0:r.g0=3)(h1:r.g1=8)(h2:r.g2=6)(h3:r.g3=0)(hi:i.Ok):
  aI r (bD (ai r i))=⟨i.op%256,(16*i.d+i.s)%256/16,(16*i.d+i.s)%256%16,i.im%256+256*(i.im/256),0,i.bk%256,r.z⟩∧readB r (bD (ai r i))=(decide (i.bk%256 < 64) && decide ((16*i.d+i.s)%256/16 < 8) && decide ((16*i.d+i.s)%256%16 < 8))∧ai r i=[i.op%256,(16*i.d+i.s)%256,i.bk%256,i.im%256,i.im/256]:=by
 have m0:=hi.m0;have m1:=hi.m1;have a0:=hi.a0;have a1:=hi.a1;have hw:ai r i=[i.op%256,(16*i.d+i.s)%256,i.bk%256,i.im%256,i.im/256]:=by simp[ai,wl,gk,h0,h1,h2,h3,fb]
 have b0:ba (bD [i.op%256,(16*i.d+i.s)%256,i.bk%256,i.im%256,i.im/256]) 0=i.op%256:=aV _ 0 _ rfl (by omega) (by omega);have b1:ba (bD [i.op%256,(16*i.d+i.s)%256,i.bk%256,i.im%256,i.im/256]) 1=(16*i.d+i.s)%256:=aV _ 1 _ rfl (by omega) (by omega);have b2:ba (bD [i.op%256,(16*i.d+i.s)%256,i.bk%256,i.im%256,i.im/256]) 2=i.bk%256:=aV _ 2 _ rfl (by omega) (by omega);have b3:ba (bD [i.op%256,(16*i.d+i.s)%256,i.bk%256,i.im%256,i.im/256]) 3=i.im%256:=aV _ 3 _ rfl (by omega) (by omega);have b4:ba (bD [i.op%256,(16*i.d+i.s)%256,i.bk%256,i.im%256,i.im/256]) 4=i.im/256:=aV _ 4 _ rfl (by omega) (by omega);refine⟨?_,?_,hw⟩
 ·rw[hw]
  simp[aI,rs,gk,h0,h1,h2,h3,aN,b0,b1,b2,b3,b4]
 ·rw[hw]
  simp[readB,rs,gk,h0,h1,h2,h3,aN,b0,b1,b2,b3,b4]
theorem AO(r:Row)(i:Ins)(h0:r.g0=2)(h1:r.g1=6)(h2:r.g2=7)(h3:r.g3=0)(hi:i.Ok):
  aI r (bD (ai r i))=⟨i.op%256,0,i.s%256,i.im%256+256*(i.im/256),i.ax%256+256*(i.ax/256),0,r.z⟩∧readB r (bD (ai r i))=(true && decide (0 < 8) && decide (i.s%256 < 8))∧ai r i=[i.op%256,i.s%256,i.im%256,i.im/256,i.ax%256,i.ax/256]:=by
 have m0:=hi.m0;have m1:=hi.m1;have a0:=hi.a0;have a1:=hi.a1;have hw:ai r i=[i.op%256,i.s%256,i.im%256,i.im/256,i.ax%256,i.ax/256]:=by simp[ai,wl,gk,h0,h1,h2,h3,fb]
 have b0:ba (bD [i.op%256,i.s%256,i.im%256,i.im/256,i.ax%256,i.ax/256]) 0=i.op%256:=aV _ 0 _ rfl (by omega) (by omega);have b1:ba (bD [i.op%256,i.s%256,i.im%256,i.im/256,i.ax%256,i.ax/256]) 1=i.s%256:=aV _ 1 _ rfl (by omega) (by omega);have b2:ba (bD [i.op%256,i.s%256,i.im%256,i.im/256,i.ax%256,i.ax/256]) 2=i.im%256:=aV _ 2 _ rfl (by omega) (by omega);have b3:ba (bD [i.op%256,i.s%256,i.im%256,i.im/256,i.ax%256,i.ax/256]) 3=i.im/256:=aV _ 3 _ rfl (by omega) (by omega);have b4:ba (bD [i.op%256,i.s%256,i.im%256,i.im/256,i.ax%256,i.ax/256]) 4=i.ax%256:=aV _ 4 _ rfl (by omega) (by omega);have b5:ba (bD [i.op%256,i.s%256,i.im%256,i.im/256,i.ax%256,i.ax/256]) 5=i.ax/256:=aV _ 5 _ rfl (by omega) (by omega);refine⟨?_,?_,hw⟩
 ·rw[hw]
  simp[aI,rs,gk,h0,h1,h2,h3,aN,b0,b1,b2,b3,b4,b5]
 ·rw[hw]
  simp[readB,rs,gk,h0,h1,h2,h3,aN,b0,b1,b2,b3,b4,b5]
def kinds:List Int:=[1,2,3,4,5,6,7,8,9,10,11,10,11,12,13,14,15,15,16,17,15,18]
theorem EM:(List.range 164).all (fun n=>match lq (n:Nat) with | some k=>decide (rF (n:Nat)=kinds.getD k 0∧rZ (n:Nat)=(R k).z) | none=>decide (rF (n:Nat)=0))=true:=by decide+kernel
theorem zY(op:Int)(h:op < 0∨163 < op):known op=false∧rF op=0:=by
 refine⟨?_,by unfold rF;rw[if_pos h]⟩;have:∀ k,k < 22→nU op k=false:=by
  intro k hk;unfold nU;rw[decide_eq_false_iff_not];have hb:0≤(R k).a+(R k).f∧(R k).l+(R k).f≤163:=by rcases ik hk with rfl | rfl | rfl | rfl | rfl | rfl | rfl | rfl | rfl | rfl | rfl | rfl | rfl | rfl | rfl | rfl | rfl | rfl | rfl | rfl | rfl | rfl<;>decide
  omega
 exact(yV op this).2
theorem oH(op:Int):(known op=false∧rF op=0)∨∃ k,k < 22∧known op=true∧row op=R k∧rF op=kinds.getD k 0∧rZ op=(R k).z∧0≤op∧op < 164:=by
 by_cases h:op < 0∨163 < op
 ·exact Or.inl (zY op h)
 ·obtain⟨n,rfl⟩:=Int.eq_ofNat_of_zero_le (show 0≤op by omega)
  have:=List.all_eq_true.1 EM n (List.mem_range.2 (by omega));unfold known row;cases hk:lq (n:Int) with
  | none=>
   rw[hk] at this;exact Or.inl ⟨rfl,by simpa using this⟩
  | some k=>
   rw[hk] at this;simp only[decide_eq_true_eq] at this;exact Or.inr ⟨k,by have:=List.mem_of_find?_eq_some hk;simpa using this,rfl,rfl,this.1,this.2,by omega,by omega⟩
theorem E8(m:Int)(m0:0≤m)(m1:m < 65536):dW (m%256)=m↔(m < 128∨65408≤m):=by
 unfold dW;split<;>omega
theorem EF(i:Ins)(hi:i.Ok)(k:Nat)(hk:k < 22)(hkn:known i.op=true)(hr:row i.op=R k)(hf:rF i.op=kinds.getD k 0)(hz:rZ i.op=(R k).z)(o0:0≤i.op)(o1:i.op < 164):je i=rV i:=by
 have hv:je i=ng (R k) i:=by
  unfold je lK;rw[if_pos hkn,hr];cases ng (R k) i<;>rfl
 have m0:=hi.m0;have m1:=hi.m1;have a0:=hi.a0;have a1:=hi.a1;have hx:=E8 i.im m0 m1;rw[hv];unfold ng;rcases ik hk with rfl|rfl|rfl|rfl|rfl|rfl|rfl|rfl|rfl|rfl|rfl|rfl|rfl|rfl|rfl|rfl|rfl|rfl|rfl|rfl|rfl|rfl
 ·obtain⟨h1,h2,_⟩:=AV (R 0) i rfl rfl rfl rfl hi
  have hz':rZ i.op=(R 0).z:=hz;have hf':rF i.op=1:=hf;rw[h1,h2,Bool.eq_iff_iff];unfold rV;rw[hf',hz',if_neg (by decide)];have hzz:(R 0).z=i.sz↔i.sz=(R 0).z:=eq_comm;generalize (R 0).z=Z at*;obtain⟨op,d,s,im,ax,bk,sz⟩:=i;simp only at*;by_cases hsz:sz=Z
  ·subst hsz
   simp only[rK,rgB,bkB,sgB,Bool.and_eq_true,decide_eq_true_eq,beq_iff_eq,Ins.mk.injEq,if_true,Int.reduceEq,if_false,true_and,and_true];omega
  ·simp[hsz,hzz]
 ·obtain⟨h1,h2,_⟩:=AU (R 1) i rfl rfl rfl rfl hi
  have hz':rZ i.op=(R 1).z:=hz;have hf':rF i.op=2:=hf;rw[h1,h2,Bool.eq_iff_iff];unfold rV;rw[hf',hz',if_neg (by decide)];have hzz:(R 1).z=i.sz↔i.sz=(R 1).z:=eq_comm;generalize (R 1).z=Z at*;obtain⟨op,d,s,im,ax,bk,sz⟩:=i;simp only at*;by_cases hsz:sz=Z
  ·subst hsz
   simp only[rK,rgB,bkB,sgB,Bool.and_eq_true,decide_eq_true_eq,beq_iff_eq,Ins.mk.injEq,if_true,Int.reduceEq,if_false,true_and,and_true];omega
  ·simp[hsz,hzz]
 ·obtain⟨h1,h2,_⟩:=Az (R 2) i rfl rfl rfl rfl hi
  have hz':rZ i.op=(R 2).z:=hz;have hf':rF i.op=3:=hf;rw[h1,h2,Bool.eq_iff_iff];unfold rV;rw[hf',hz',if_neg (by decide)];have hzz:(R 2).z=i.sz↔i.sz=(R 2).z:=eq_comm;generalize (R 2).z=Z at*;obtain⟨op,d,s,im,ax,bk,sz⟩:=i;simp only at*;by_cases hsz:sz=Z
  ·subst hsz
   simp only[rK,rgB,bkB,sgB,Bool.and_eq_true,decide_eq_true_eq,beq_iff_eq,Ins.mk.injEq,if_true,Int.reduceEq,if_false,true_and,and_true];omega
  ·simp[hsz,hzz]
 ·obtain⟨h1,h2,_⟩:=AL (R 3) i rfl rfl rfl rfl hi
  have hz':rZ i.op=(R 3).z:=hz;have hf':rF i.op=4:=hf;rw[h1,h2,Bool.eq_iff_iff];unfold rV;rw[hf',hz',if_neg (by decide)];have hzz:(R 3).z=i.sz↔i.sz=(R 3).z:=eq_comm;generalize (R 3).z=Z at*;obtain⟨op,d,s,im,ax,bk,sz⟩:=i;simp only at*;by_cases hsz:sz=Z
  ·subst hsz
   simp only[rK,rgB,bkB,sgB,Bool.and_eq_true,decide_eq_true_eq,beq_iff_eq,Ins.mk.injEq,if_true,Int.reduceEq,if_false,true_and,and_true];omega
  ·simp[hsz,hzz]
 ·obtain⟨h1,h2,_⟩:=tu (R 4) i rfl rfl rfl rfl hi
  have hz':rZ i.op=(R 4).z:=hz;have hf':rF i.op=5:=hf;rw[h1,h2,Bool.eq_iff_iff];unfold rV;rw[hf',hz',if_neg (by decide)];have hzz:(R 4).z=i.sz↔i.sz=(R 4).z:=eq_comm;generalize (R 4).z=Z at*;obtain⟨op,d,s,im,ax,bk,sz⟩:=i;simp only at*;by_cases hsz:sz=Z
  ·subst hsz
   simp only[rK,rgB,bkB,sgB,Bool.and_eq_true,decide_eq_true_eq,beq_iff_eq,Ins.mk.injEq,if_true,Int.reduceEq,if_false,true_and,and_true];omega
  ·simp[hsz,hzz]
 ·obtain⟨h1,h2,_⟩:=nZ (R 5) i rfl rfl rfl rfl hi
  have hz':rZ i.op=(R 5).z:=hz;have hf':rF i.op=6:=hf;rw[h1,h2,Bool.eq_iff_iff];unfold rV;rw[hf',hz',if_neg (by decide)];have hzz:(R 5).z=i.sz↔i.sz=(R 5).z:=eq_comm;generalize (R 5).z=Z at*;obtain⟨op,d,s,im,ax,bk,sz⟩:=i;simp only at*;by_cases hsz:sz=Z
  ·subst hsz
   simp only[rK,rgB,bkB,sgB,Bool.and_eq_true,decide_eq_true_eq,beq_iff_eq,Ins.mk.injEq,if_true,Int.reduceEq,if_false,true_and,and_true];omega
  ·simp[hsz,hzz]
 ·obtain⟨h1,h2,_⟩:=AC (R 6) i rfl rfl rfl rfl hi
  have hz':rZ i.op=(R 6).z:=hz;have hf':rF i.op=7:=hf;rw[h1,h2,Bool.eq_iff_iff];unfold rV;rw[hf',hz',if_neg (by decide)];have hzz:(R 6).z=i.sz↔i.sz=(R 6).z:=eq_comm;generalize (R 6).z=Z at*;obtain⟨op,d,s,im,ax,bk,sz⟩:=i;simp only at*;by_cases hsz:sz=Z
  ·subst hsz
   simp only[rK,rgB,bkB,sgB,Bool.and_eq_true,decide_eq_true_eq,beq_iff_eq,Ins.mk.injEq,if_true,Int.reduceEq,if_false,true_and,and_true];omega
  ·simp[hsz,hzz]
 ·obtain⟨h1,h2,_⟩:=AB (R 7) i rfl rfl rfl rfl hi
  have hz':rZ i.op=(R 7).z:=hz;have hf':rF i.op=8:=hf;rw[h1,h2,Bool.eq_iff_iff];unfold rV;rw[hf',hz',if_neg (by decide)];have hzz:(R 7).z=i.sz↔i.sz=(R 7).z:=eq_comm;generalize (R 7).z=Z at*;obtain⟨op,d,s,im,ax,bk,sz⟩:=i;simp only at*;by_cases hsz:sz=Z
  ·subst hsz
   simp only[rK,rgB,bkB,sgB,Bool.and_eq_true,decide_eq_true_eq,beq_iff_eq,Ins.mk.injEq,if_true,Int.reduceEq,if_false,true_and,and_true];omega
  ·simp[hsz,hzz]
 ·obtain⟨h1,h2,_⟩:=nZ (R 8) i rfl rfl rfl rfl hi
  have hz':rZ i.op=(R 8).z:=hz;have hf':rF i.op=9:=hf;rw[h1,h2,Bool.eq_iff_iff];unfold rV;rw[hf',hz',if_neg (by decide)];have hzz:(R 8).z=i.sz↔i.sz=(R 8).z:=eq_comm;generalize (R 8).z=Z at*;obtain⟨op,d,s,im,ax,bk,sz⟩:=i;simp only at*;by_cases hsz:sz=Z
  ·subst hsz
   simp only[rK,rgB,bkB,sgB,Bool.and_eq_true,decide_eq_true_eq,beq_iff_eq,Ins.mk.injEq,if_true,Int.reduceEq,if_false,true_and,and_true];omega
  ·simp[hsz,hzz]
 ·obtain⟨h1,h2,_⟩:=sZ (R 9) i rfl rfl rfl rfl hi
  have hz':rZ i.op=(R 9).z:=hz;have hf':rF i.op=10:=hf;rw[h1,h2,Bool.eq_iff_iff];unfold rV;rw[hf',hz',if_neg (by decide)];have hzz:(R 9).z=i.sz↔i.sz=(R 9).z:=eq_comm;generalize (R 9).z=Z at*;obtain⟨op,d,s,im,ax,bk,sz⟩:=i;simp only at*;by_cases hsz:sz=Z
  ·subst hsz
   simp only[rK,rgB,bkB,sgB,Bool.and_eq_true,decide_eq_true_eq,beq_iff_eq,Ins.mk.injEq,if_true,Int.reduceEq,if_false,true_and,and_true];omega
  ·simp[hsz,hzz]
 ·obtain⟨h1,h2,_⟩:=sW (R 10) i rfl rfl rfl rfl hi
  have hz':rZ i.op=(R 10).z:=hz;have hf':rF i.op=11:=hf;rw[h1,h2,Bool.eq_iff_iff];unfold rV;rw[hf',hz',if_neg (by decide)];have hzz:(R 10).z=i.sz↔i.sz=(R 10).z:=eq_comm;generalize (R 10).z=Z at*;obtain⟨op,d,s,im,ax,bk,sz⟩:=i;simp only at*;by_cases hsz:sz=Z
  ·subst hsz
   simp only[rK,rgB,bkB,sgB,Bool.and_eq_true,decide_eq_true_eq,beq_iff_eq,Ins.mk.injEq,if_true,Int.reduceEq,if_false,true_and,and_true];omega
  ·simp[hsz,hzz]
 ·obtain⟨h1,h2,_⟩:=sZ (R 11) i rfl rfl rfl rfl hi
  have hz':rZ i.op=(R 11).z:=hz;have hf':rF i.op=10:=hf;rw[h1,h2,Bool.eq_iff_iff];unfold rV;rw[hf',hz',if_neg (by decide)];have hzz:(R 11).z=i.sz↔i.sz=(R 11).z:=eq_comm;generalize (R 11).z=Z at*;obtain⟨op,d,s,im,ax,bk,sz⟩:=i;simp only at*;by_cases hsz:sz=Z
  ·subst hsz
   simp only[rK,rgB,bkB,sgB,Bool.and_eq_true,decide_eq_true_eq,beq_iff_eq,Ins.mk.injEq,if_true,Int.reduceEq,if_false,true_and,and_true];omega
  ·simp[hsz,hzz]
 ·obtain⟨h1,h2,_⟩:=sW (R 12) i rfl rfl rfl rfl hi
  have hz':rZ i.op=(R 12).z:=hz;have hf':rF i.op=11:=hf;rw[h1,h2,Bool.eq_iff_iff];unfold rV;rw[hf',hz',if_neg (by decide)];have hzz:(R 12).z=i.sz↔i.sz=(R 12).z:=eq_comm;generalize (R 12).z=Z at*;obtain⟨op,d,s,im,ax,bk,sz⟩:=i;simp only at*;by_cases hsz:sz=Z
  ·subst hsz
   simp only[rK,rgB,bkB,sgB,Bool.and_eq_true,decide_eq_true_eq,beq_iff_eq,Ins.mk.injEq,if_true,Int.reduceEq,if_false,true_and,and_true];omega
  ·simp[hsz,hzz]
 ·obtain⟨h1,h2,_⟩:=Aw (R 13) i rfl rfl rfl rfl hi
  have hz':rZ i.op=(R 13).z:=hz;have hf':rF i.op=12:=hf;rw[h1,h2,Bool.eq_iff_iff];unfold rV;rw[hf',hz',if_neg (by decide)];have hzz:(R 13).z=i.sz↔i.sz=(R 13).z:=eq_comm;generalize (R 13).z=Z at*;obtain⟨op,d,s,im,ax,bk,sz⟩:=i;simp only at*;by_cases hsz:sz=Z
  ·subst hsz
   simp only[rK,rgB,bkB,sgB,Bool.and_eq_true,decide_eq_true_eq,beq_iff_eq,Ins.mk.injEq,if_true,Int.reduceEq,if_false,true_and,and_true];omega
  ·simp[hsz,hzz]
 ·obtain⟨h1,h2,_⟩:=AQ (R 14) i rfl rfl rfl rfl hi
  have hz':rZ i.op=(R 14).z:=hz;have hf':rF i.op=13:=hf;rw[h1,h2,Bool.eq_iff_iff];unfold rV;rw[hf',hz',if_neg (by decide)];have hzz:(R 14).z=i.sz↔i.sz=(R 14).z:=eq_comm;generalize (R 14).z=Z at*;obtain⟨op,d,s,im,ax,bk,sz⟩:=i;simp only at*;by_cases hsz:sz=Z
  ·subst hsz
   simp only[rK,rgB,bkB,sgB,Bool.and_eq_true,decide_eq_true_eq,beq_iff_eq,Ins.mk.injEq,if_true,Int.reduceEq,if_false,true_and,and_true];omega
  ·simp[hsz,hzz]
 ·obtain⟨h1,h2,_⟩:=nZ (R 15) i rfl rfl rfl rfl hi
  have hz':rZ i.op=(R 15).z:=hz;have hf':rF i.op=14:=hf;rw[h1,h2,Bool.eq_iff_iff];unfold rV;rw[hf',hz',if_neg (by decide)];have hzz:(R 15).z=i.sz↔i.sz=(R 15).z:=eq_comm;generalize (R 15).z=Z at*;obtain⟨op,d,s,im,ax,bk,sz⟩:=i;simp only at*;by_cases hsz:sz=Z
  ·subst hsz
   simp only[rK,rgB,bkB,sgB,Bool.and_eq_true,decide_eq_true_eq,beq_iff_eq,Ins.mk.injEq,if_true,Int.reduceEq,if_false,true_and,and_true];omega
  ·simp[hsz,hzz]
 ·obtain⟨h1,h2,_⟩:=og (R 16) i rfl rfl rfl rfl hi
  have hz':rZ i.op=(R 16).z:=hz;have hf':rF i.op=15:=hf;rw[h1,h2,Bool.eq_iff_iff];unfold rV;rw[hf',hz',if_neg (by decide)];have hzz:(R 16).z=i.sz↔i.sz=(R 16).z:=eq_comm;generalize (R 16).z=Z at*;obtain⟨op,d,s,im,ax,bk,sz⟩:=i;simp only at*;by_cases hsz:sz=Z
  ·subst hsz
   simp only[rK,rgB,bkB,sgB,Bool.and_eq_true,decide_eq_true_eq,beq_iff_eq,Ins.mk.injEq,if_true,Int.reduceEq,if_false,true_and,and_true];omega
  ·simp[hsz,hzz]
 ·obtain⟨h1,h2,_⟩:=og (R 17) i rfl rfl rfl rfl hi
  have hz':rZ i.op=(R 17).z:=hz;have hf':rF i.op=15:=hf;rw[h1,h2,Bool.eq_iff_iff];unfold rV;rw[hf',hz',if_neg (by decide)];have hzz:(R 17).z=i.sz↔i.sz=(R 17).z:=eq_comm;generalize (R 17).z=Z at*;obtain⟨op,d,s,im,ax,bk,sz⟩:=i;simp only at*;by_cases hsz:sz=Z
  ·subst hsz
   simp only[rK,rgB,bkB,sgB,Bool.and_eq_true,decide_eq_true_eq,beq_iff_eq,Ins.mk.injEq,if_true,Int.reduceEq,if_false,true_and,and_true];omega
  ·simp[hsz,hzz]
 ·obtain⟨h1,h2,_⟩:=AA (R 18) i rfl rfl rfl rfl hi
  have hz':rZ i.op=(R 18).z:=hz;have hf':rF i.op=16:=hf;rw[h1,h2,Bool.eq_iff_iff];unfold rV;rw[hf',hz',if_neg (by decide)];have hzz:(R 18).z=i.sz↔i.sz=(R 18).z:=eq_comm;generalize (R 18).z=Z at*;obtain⟨op,d,s,im,ax,bk,sz⟩:=i;simp only at*;by_cases hsz:sz=Z
  ·subst hsz
   simp only[rK,rgB,bkB,sgB,Bool.and_eq_true,decide_eq_true_eq,beq_iff_eq,Ins.mk.injEq,if_true,Int.reduceEq,if_false,true_and,and_true];omega
  ·simp[hsz,hzz]
 ·obtain⟨h1,h2,_⟩:=AO (R 19) i rfl rfl rfl rfl hi
  have hz':rZ i.op=(R 19).z:=hz;have hf':rF i.op=17:=hf;rw[h1,h2,Bool.eq_iff_iff];unfold rV;rw[hf',hz',if_neg (by decide)];have hzz:(R 19).z=i.sz↔i.sz=(R 19).z:=eq_comm;generalize (R 19).z=Z at*;obtain⟨op,d,s,im,ax,bk,sz⟩:=i;simp only at*;by_cases hsz:sz=Z
  ·subst hsz
   simp only[rK,rgB,bkB,sgB,Bool.and_eq_true,decide_eq_true_eq,beq_iff_eq,Ins.mk.injEq,if_true,Int.reduceEq,if_false,true_and,and_true];omega
  ·simp[hsz,hzz]
 ·obtain⟨h1,h2,_⟩:=og (R 20) i rfl rfl rfl rfl hi
  have hz':rZ i.op=(R 20).z:=hz;have hf':rF i.op=15:=hf;rw[h1,h2,Bool.eq_iff_iff];unfold rV;rw[hf',hz',if_neg (by decide)];have hzz:(R 20).z=i.sz↔i.sz=(R 20).z:=eq_comm;generalize (R 20).z=Z at*;obtain⟨op,d,s,im,ax,bk,sz⟩:=i;simp only at*;by_cases hsz:sz=Z
  ·subst hsz
   simp only[rK,rgB,bkB,sgB,Bool.and_eq_true,decide_eq_true_eq,beq_iff_eq,Ins.mk.injEq,if_true,Int.reduceEq,if_false,true_and,and_true];omega
  ·simp[hsz,hzz]
 ·obtain⟨h1,h2,_⟩:=tu (R 21) i rfl rfl rfl rfl hi
  have hz':rZ i.op=(R 21).z:=hz;have hf':rF i.op=18:=hf;rw[h1,h2,Bool.eq_iff_iff];unfold rV;rw[hf',hz',if_neg (by decide)];have hzz:(R 21).z=i.sz↔i.sz=(R 21).z:=eq_comm;generalize (R 21).z=Z at*;obtain⟨op,d,s,im,ax,bk,sz⟩:=i;simp only at*;by_cases hsz:sz=Z
  ·subst hsz
   simp only[rK,rgB,bkB,sgB,Bool.and_eq_true,decide_eq_true_eq,beq_iff_eq,Ins.mk.injEq,if_true,Int.reduceEq,if_false,true_and,and_true];omega
  ·simp[hsz,hzz]
theorem valid_eq(i:Ins)(hi:i.Ok):je i=rV i:=by
 rcases oH i.op with⟨h1,h2⟩|⟨k,hk,hkn,hr,hf,hz,o0,o1⟩
 ·unfold je lK rV
  rw[h1,h2];rfl
 ·exact EF i hi k hk hkn hr hf hz o0 o1
theorem ES(l:List UInt8):bD (l.map fun b=>(b.toNat:Int))=⟨l.toArray⟩:=by
 apply ByteArray.ext;apply Array.ext';rw[nD,List.map_map]
 conv=>rhs;rw[← List.map_id l]
 apply List.map_congr_left;intro x _
 simp
def bL(x:ByteArray):List Int:=x.data.toList.map fun b=>(b.toNat:Int)
theorem ET(x:ByteArray):bD (bL x)=x:=by unfold bL;rw[ES]
theorem Jq(x:ByteArray):(bL x).length=x.size:=by unfold bL;rw[List.length_map];rfl
def pre(s:ByteArray)(n:Nat):List Int:=(List.range n).map (ba s)
theorem Jr(s:ByteArray)(j:Nat)(h:j < s.size):(bL s)[j]? =some (ba s j):=by
 unfold bL ba;have h':j < s.data.toList.length:=h;rw[List.getElem?_map,List.getElem?_eq_getElem h'];rfl
theorem FY(s:ByteArray):pre s s.size=bL s:=by
 apply List.ext_getElem?;intro j;unfold pre;rw[List.getElem?_map];by_cases h:j < s.size
 ·rw[Jr s j h,List.getElem?_range h];rfl
 ·rw[List.getElem?_eq_none (by simp;omega),List.getElem?_eq_none (by rw[Jq];omega)];rfl
theorem Bh(s:ByteArray):bD (pre s s.size)=s:=by rw[FY,ET]
theorem zO{s t:ByteArray}{n:Nat}(h:∀ j,j < n→ba s j=ba t j):pre s n=pre t n:=
 List.map_congr_left fun j hj=>h j (List.mem_range.1 hj)
theorem Ep(s:ByteArray)(j:Nat)(h:s.size≤j):ba s j=0:=by
 unfold ba;rw[List.getElem?_eq_none (by exact h)];rfl
theorem qW(s:ByteArray)(n j:Nat)(hn:n≤s.size):ba (s.extract 0 n) j=if j < n then ba s j else 0:=by
 unfold ba;have hd:(s.extract 0 n).data.toList=s.data.toList.take n:=by
  rw[ByteArray.data_extract];simp
 rw[hd,List.getElem?_take]
 split<;>rfl
theorem nz(s:ByteArray)(n:Nat)(hn:n≤s.size):bD (pre s n)=s.extract 0 n:=by
 have hsz:(s.extract 0 n).size=n:=by rw[ByteArray.size_extract];omega
 rw[← Bh (s.extract 0 n),hsz]
 congr 1
 exact zO fun j hj=>by rw[qW s n j hn,if_pos hj]
theorem vH(r:Row)(c d:ByteArray):∀ n,(∀ j,j < jw r n→ba c j=ba d j)→rs r c n=rs r d n
 | 0,_=>rfl
 | n+1,h=>by
  have ih:=vH r c d n fun j hj=>h j (Nat.lt_of_lt_of_le hj (Nat.le_add_right _ _))
  have hk:=Iz r d n;show aN c (gk r n) (rs r c n)=aN d (gk r n) (rs r d n);rw[ih];have hf:jw r (n+1)=jw r n+fl (gk r n):=rfl;rw[hf] at h;obtain⟨x,hx⟩:∃ x,rs r d n=x:=⟨_,rfl⟩;rw[hx] at hk;rw[hx];have h0:0 < fl (gk r n)→ba c x.k=ba d x.k:=fun hp=>h _ (by rw[hk];omega)
  have h1:1 < fl (gk r n)→ba c (x.k+1)=ba d (x.k+1):=fun hp=>h _ (by rw[hk];omega)
  generalize gk r n=g at*;unfold fl at h0 h1;unfold aN;by_cases e1:g=1
  ·subst e1;simp at h0⊢;exact h0
  by_cases e2:g=2
  ·subst e2;simp at h0⊢;exact h0
  by_cases e3:g=3
  ·subst e3;simp at h0⊢;rw[h0];simp
  by_cases e4:g=4
  ·subst e4;simp at h0⊢;rw[h0]
  by_cases e5:g=5
  ·subst e5;simp at h0⊢;exact h0
  by_cases e6:g=6
  ·subst e6;simp at h0 h1⊢;rw[h0,h1]
  by_cases e7:g=7
  ·subst e7;simp at h0 h1⊢;rw[h0,h1]
  by_cases e8:g=8
  ·subst e8;simp at h0⊢;rw[h0];simp
  by_cases e9:g=9
  ·subst e9;simp at h0⊢;rw[h0];simp
  simp[e1,e2,e3,e4,e5,e6,e7,e8,e9]
theorem xm(r:Row)(c d:ByteArray)(h:∀ j,j < jw r 4→ba c j=ba d j):aI r c=aI r d∧readB r c=readB r d:=by
 have hr:=vH r c d 4 h;have h0:ba c 0=ba d 0:=h 0 (by have:=uB r 0 (by omega);have:jw r 0=1:=rfl;omega);unfold aI readB;rw[hr,h0];exact⟨rfl,rfl⟩
theorem pM(b:Int)(h0:0≤b)(h1:b < 256):dW b%256=b:=by unfold dW;split<;>omega
theorem xP(r:Row)(c:ByteArray)(h0:r.g0=0)(h1:r.g1=0)(h2:r.g2=0)(h3:r.g3=0):ai r (aI r c)=pre c 1:=by
 obtain⟨l0,u0⟩:=ay c 0;have hp:pre c 1=[ba c 0]:=by simp[pre,List.range,List.range.loop]
 rw[hp];simp[ai,wl,gk,h0,h1,h2,h3,fb,aI,rs,aN];omega
theorem xO(r:Row)(c:ByteArray)(h0:r.g0=1)(h1:r.g1=0)(h2:r.g2=0)(h3:r.g3=0):ai r (aI r c)=pre c 2:=by
 obtain⟨l0,u0⟩:=ay c 0;obtain⟨l1,u1⟩:=ay c 1;have hp:pre c 2=[ba c 0,ba c 1]:=by simp[pre,List.range,List.range.loop]
 rw[hp];simp[ai,wl,gk,h0,h1,h2,h3,fb,aI,rs,aN];refine⟨?_,?_⟩
 ·omega
 ·omega
theorem xG(r:Row)(c:ByteArray)(h0:r.g0=5)(h1:r.g1=0)(h2:r.g2=0)(h3:r.g3=0):ai r (aI r c)=pre c 2:=by
 obtain⟨l0,u0⟩:=ay c 0;obtain⟨l1,u1⟩:=ay c 1;have hp:pre c 2=[ba c 0,ba c 1]:=by simp[pre,List.range,List.range.loop]
 rw[hp];simp[ai,wl,gk,h0,h1,h2,h3,fb,aI,rs,aN];refine⟨?_,?_⟩
 ·omega
 ·omega
theorem xK(r:Row)(c:ByteArray)(h0:r.g0=3)(h1:r.g1=0)(h2:r.g2=0)(h3:r.g3=0):ai r (aI r c)=pre c 2:=by
 obtain⟨l0,u0⟩:=ay c 0;obtain⟨l1,u1⟩:=ay c 1;have hp:pre c 2=[ba c 0,ba c 1]:=by simp[pre,List.range,List.range.loop]
 rw[hp];simp[ai,wl,gk,h0,h1,h2,h3,fb,aI,rs,aN];refine⟨?_,?_⟩
 ·omega
 ·omega
theorem qM(r:Row)(c:ByteArray)(h0:r.g0=1)(h1:r.g1=4)(h2:r.g2=0)(h3:r.g3=0):ai r (aI r c)=pre c 3:=by
 obtain⟨l0,u0⟩:=ay c 0;obtain⟨l1,u1⟩:=ay c 1;obtain⟨l2,u2⟩:=ay c 2;have hp:pre c 3=[ba c 0,ba c 1,ba c 2]:=by simp[pre,List.range,List.range.loop]
 rw[hp];simp[ai,wl,gk,h0,h1,h2,h3,fb,aI,rs,aN];refine⟨?_,?_,?_⟩
 ·omega
 ·omega
 ·exact pM _ l2 u2
theorem lH(r:Row)(c:ByteArray)(h0:r.g0=1)(h1:r.g1=6)(h2:r.g2=0)(h3:r.g3=0):ai r (aI r c)=pre c 4:=by
 obtain⟨l0,u0⟩:=ay c 0;obtain⟨l1,u1⟩:=ay c 1;obtain⟨l2,u2⟩:=ay c 2;obtain⟨l3,u3⟩:=ay c 3;have hp:pre c 4=[ba c 0,ba c 1,ba c 2,ba c 3]:=by simp[pre,List.range,List.range.loop]
 rw[hp];simp[ai,wl,gk,h0,h1,h2,h3,fb,aI,rs,aN];refine⟨?_,?_,?_,?_⟩
 ·omega
 ·omega
 ·omega
 ·omega
theorem xJ(r:Row)(c:ByteArray)(h0:r.g0=3)(h1:r.g1=4)(h2:r.g2=0)(h3:r.g3=0):ai r (aI r c)=pre c 3:=by
 obtain⟨l0,u0⟩:=ay c 0;obtain⟨l1,u1⟩:=ay c 1;obtain⟨l2,u2⟩:=ay c 2;have hp:pre c 3=[ba c 0,ba c 1,ba c 2]:=by simp[pre,List.range,List.range.loop]
 rw[hp];simp[ai,wl,gk,h0,h1,h2,h3,fb,aI,rs,aN];refine⟨?_,?_,?_⟩
 ·omega
 ·omega
 ·exact pM _ l2 u2
theorem xI(r:Row)(c:ByteArray)(h0:r.g0=3)(h1:r.g1=6)(h2:r.g2=0)(h3:r.g3=0):ai r (aI r c)=pre c 4:=by
 obtain⟨l0,u0⟩:=ay c 0;obtain⟨l1,u1⟩:=ay c 1;obtain⟨l2,u2⟩:=ay c 2;obtain⟨l3,u3⟩:=ay c 3;have hp:pre c 4=[ba c 0,ba c 1,ba c 2,ba c 3]:=by simp[pre,List.range,List.range.loop]
 rw[hp];simp[ai,wl,gk,h0,h1,h2,h3,fb,aI,rs,aN];refine⟨?_,?_,?_,?_⟩
 ·omega
 ·omega
 ·omega
 ·omega
theorem qL(r:Row)(c:ByteArray)(h0:r.g0=4)(h1:r.g1=0)(h2:r.g2=0)(h3:r.g3=0):ai r (aI r c)=pre c 2:=by
 obtain⟨l0,u0⟩:=ay c 0;obtain⟨l1,u1⟩:=ay c 1;have hp:pre c 2=[ba c 0,ba c 1]:=by simp[pre,List.range,List.range.loop]
 rw[hp];simp[ai,wl,gk,h0,h1,h2,h3,fb,aI,rs,aN];refine⟨?_,?_⟩
 ·omega
 ·exact pM _ l1 u1
theorem qK(r:Row)(c:ByteArray)(h0:r.g0=6)(h1:r.g1=0)(h2:r.g2=0)(h3:r.g3=0):ai r (aI r c)=pre c 3:=by
 obtain⟨l0,u0⟩:=ay c 0;obtain⟨l1,u1⟩:=ay c 1;obtain⟨l2,u2⟩:=ay c 2;have hp:pre c 3=[ba c 0,ba c 1,ba c 2]:=by simp[pre,List.range,List.range.loop]
 rw[hp];simp[ai,wl,gk,h0,h1,h2,h3,fb,aI,rs,aN];refine⟨?_,?_,?_⟩
 ·omega
 ·omega
 ·omega
theorem xE(r:Row)(c:ByteArray)(h0:r.g0=8)(h1:r.g1=6)(h2:r.g2=0)(h3:r.g3=0):ai r (aI r c)=pre c 4:=by
 obtain⟨l0,u0⟩:=ay c 0;obtain⟨l1,u1⟩:=ay c 1;obtain⟨l2,u2⟩:=ay c 2;obtain⟨l3,u3⟩:=ay c 3;have hp:pre c 4=[ba c 0,ba c 1,ba c 2,ba c 3]:=by simp[pre,List.range,List.range.loop]
 rw[hp];simp[ai,wl,gk,h0,h1,h2,h3,fb,aI,rs,aN];refine⟨?_,?_,?_,?_⟩
 ·omega
 ·omega
 ·omega
 ·omega
theorem xN(r:Row)(c:ByteArray)(h0:r.g0=1)(h1:r.g1=9)(h2:r.g2=6)(h3:r.g3=7):ai r (aI r c)=pre c 7:=by
 obtain⟨l0,u0⟩:=ay c 0;obtain⟨l1,u1⟩:=ay c 1;obtain⟨l2,u2⟩:=ay c 2;obtain⟨l3,u3⟩:=ay c 3;obtain⟨l4,u4⟩:=ay c 4;obtain⟨l5,u5⟩:=ay c 5;obtain⟨l6,u6⟩:=ay c 6;have hp:pre c 7=[ba c 0,ba c 1,ba c 2,ba c 3,ba c 4,ba c 5,ba c 6]:=by simp[pre,List.range,List.range.loop]
 rw[hp];simp[ai,wl,gk,h0,h1,h2,h3,fb,aI,rs,aN];refine⟨?_,?_,?_,?_,?_,?_,?_⟩
 ·omega
 ·omega
 ·omega
 ·omega
 ·omega
 ·omega
 ·omega
theorem lI(r:Row)(c:ByteArray)(h0:r.g0=1)(h1:r.g1=5)(h2:r.g2=0)(h3:r.g3=0):ai r (aI r c)=pre c 3:=by
 obtain⟨l0,u0⟩:=ay c 0;obtain⟨l1,u1⟩:=ay c 1;obtain⟨l2,u2⟩:=ay c 2;have hp:pre c 3=[ba c 0,ba c 1,ba c 2]:=by simp[pre,List.range,List.range.loop]
 rw[hp];simp[ai,wl,gk,h0,h1,h2,h3,fb,aI,rs,aN];refine⟨?_,?_,?_⟩
 ·omega
 ·omega
 ·omega
theorem xH(r:Row)(c:ByteArray)(h0:r.g0=3)(h1:r.g1=8)(h2:r.g2=6)(h3:r.g3=0):ai r (aI r c)=pre c 5:=by
 obtain⟨l0,u0⟩:=ay c 0;obtain⟨l1,u1⟩:=ay c 1;obtain⟨l2,u2⟩:=ay c 2;obtain⟨l3,u3⟩:=ay c 3;obtain⟨l4,u4⟩:=ay c 4;have hp:pre c 5=[ba c 0,ba c 1,ba c 2,ba c 3,ba c 4]:=by simp[pre,List.range,List.range.loop]
 rw[hp];simp[ai,wl,gk,h0,h1,h2,h3,fb,aI,rs,aN];refine⟨?_,?_,?_,?_,?_⟩
 ·omega
 ·omega
 ·omega
 ·omega
 ·omega
theorem xM(r:Row)(c:ByteArray)(h0:r.g0=2)(h1:r.g1=6)(h2:r.g2=7)(h3:r.g3=0):ai r (aI r c)=pre c 6:=by
 obtain⟨l0,u0⟩:=ay c 0;obtain⟨l1,u1⟩:=ay c 1;obtain⟨l2,u2⟩:=ay c 2;obtain⟨l3,u3⟩:=ay c 3;obtain⟨l4,u4⟩:=ay c 4;obtain⟨l5,u5⟩:=ay c 5;have hp:pre c 6=[ba c 0,ba c 1,ba c 2,ba c 3,ba c 4,ba c 5]:=by simp[pre,List.range,List.range.loop]
 rw[hp];simp[ai,wl,gk,h0,h1,h2,h3,fb,aI,rs,aN];refine⟨?_,?_,?_,?_,?_,?_⟩
 ·omega
 ·omega
 ·omega
 ·omega
 ·omega
 ·omega
theorem KJ(op:Int)(c:ByteArray)(h:known op=true):ai (row op) (aI (row op) c)=pre c (jw (row op) 4):=by
 rcases oH op with⟨h',_⟩|⟨k,hk,_,hr,_⟩
 ·rw[h] at h';cases h'
 ·rw[hr]
  rcases ik hk with rfl|rfl|rfl|rfl|rfl|rfl|rfl|rfl|rfl|rfl|rfl|rfl|rfl|rfl|rfl|rfl|rfl|rfl|rfl|rfl|rfl|rfl
  ·exact(xP (R 0) c rfl rfl rfl rfl)
  ·exact(xO (R 1) c rfl rfl rfl rfl)
  ·exact(xG (R 2) c rfl rfl rfl rfl)
  ·exact(xK (R 3) c rfl rfl rfl rfl)
  ·exact(qM (R 4) c rfl rfl rfl rfl)
  ·exact(lH (R 5) c rfl rfl rfl rfl)
  ·exact(xJ (R 6) c rfl rfl rfl rfl)
  ·exact(xI (R 7) c rfl rfl rfl rfl)
  ·exact(lH (R 8) c rfl rfl rfl rfl)
  ·exact(qL (R 9) c rfl rfl rfl rfl)
  ·exact(qK (R 10) c rfl rfl rfl rfl)
  ·exact(qL (R 11) c rfl rfl rfl rfl)
  ·exact(qK (R 12) c rfl rfl rfl rfl)
  ·exact(xE (R 13) c rfl rfl rfl rfl)
  ·exact(xN (R 14) c rfl rfl rfl rfl)
  ·exact(lH (R 15) c rfl rfl rfl rfl)
  ·exact(lI (R 16) c rfl rfl rfl rfl)
  ·exact(lI (R 17) c rfl rfl rfl rfl)
  ·exact(xH (R 18) c rfl rfl rfl rfl)
  ·exact(xM (R 19) c rfl rfl rfl rfl)
  ·exact(lI (R 20) c rfl rfl rfl rfl)
  ·exact(qM (R 21) c rfl rfl rfl rfl)
theorem D6{t:ByteArray}(h:fE t=0):0 < t.size∧known (ba t 0)=true∧(row (ba t 0)).z.toNat≤t.size∧readB (row (ba t 0)) t=true∧fD t=aI (row (ba t 0)) t:=by
 have hI:fD t=aI (row (ba t 0)) t:=by unfold fD;rw[if_pos h]
 unfold fE at h
 split at h
 ·cases h
 ·rename_i h0
  split at h
  ·cases h
  ·rename_i h1
   split at h
   ·cases h
   ·rename_i h2
    split at h
    ·rename_i h3
     exact⟨by omega,by simpa using h1,by omega,h3,hI⟩
    ·cases h
theorem Ai(t:ByteArray):fE t=0∨(fE t=10∧fD t=eH)∨(fE t=11∧fD t=eH):=by
 have hI:fE t≠0→fD t=eH:=fun h=>by unfold fD;rw[if_neg h]
 have:fE t=0∨fE t=10∨fE t=11:=by
  unfold fE;(repeat' split)<;>simp
 rcases this with h|h|h
 ·exact Or.inl h
 ·exact Or.inr (Or.inl ⟨h,hI (by rw[h];decide)⟩)
 ·exact Or.inr (Or.inr ⟨h,hI (by rw[h];decide)⟩)
theorem y8{t:ByteArray}(h:fE t=0):lK (fD t)=0∧encS (fD t)=t.extract 0 (row (ba t 0)).z.toNat∧(fD t).sz=(row (ba t 0)).z∧(row (ba t 0)).z.toNat≤t.size∧(fD t).op=ba t 0:=by
 obtain⟨h0,h1,h2,h3,h4⟩:=D6 h;have ho:(fD t).op=ba t 0:=by rw[h4];rfl
 have hf:=vJ _ h1;have hw:bD (ai (row (ba t 0)) (fD t))=t.extract 0 (row (ba t 0)).z.toNat:=by
  rw[h4,KJ _ _ h1,hf,nz _ _ h2]
 have hc:=xm (row (ba t 0)) (t.extract 0 (row (ba t 0)).z.toNat) t fun j hj=>by
  rw[qW _ _ _ h2,if_pos (by omega)]
 have hb:ng (row (ba t 0)) (fD t)=true:=by
  unfold ng;rw[hw,hc.1,hc.2,h3,← h4];simp
 unfold lK encS;rw[ho,if_pos h1,if_pos hb,if_pos h1,if_pos hb];exact⟨rfl,hw,by rw[h4];rfl,h2,rfl⟩
theorem zn{i:Ins}(h:je i=true):known i.op=true∧lK i=0∧encS i=bD (ai (row i.op) i)∧readB (row i.op) (encS i)=true∧aI (row i.op) (encS i)=i:=by
 have hE:lK i=0:=by simpa [je] using h
 have hk:=hE;unfold lK at hk
 split at hk
 ·rename_i h1
  split at hk
  ·rename_i h2
   have hS:encS i=bD (ai (row i.op) i):=by unfold encS;rw[if_pos h1,if_pos h2]
   unfold ng at h2;rw[Bool.and_eq_true,decide_eq_true_eq,← hS] at h2;exact⟨h1,hE,hS,h2.1,h2.2⟩
  ·cases hk
 ·cases hk
structure RS.Bd(x:RS):Prop where
 d:0≤x.d∧x.d < 256
 s:0≤x.s∧x.s < 256
 m:0≤x.im∧x.im < 65536
 a:0≤x.ax∧x.ax < 65536
 b:0≤x.bk∧x.bk < 256
theorem Fa(b:Int)(h0:0≤b)(h1:b < 256):0≤dW b∧dW b < 65536:=by unfold dW;split<;>omega
theorem G6(r:Row)(c:ByteArray):∀ n,(rs r c n).Bd
 | 0=>by constructor<;>simp[rs]
 | n+1=>by
  obtain⟨h1,h2,h3,h4,h5⟩:=G6 r c n;obtain⟨p0,p1⟩:=ay c (rs r c n).k;obtain⟨q0,q1⟩:=ay c ((rs r c n).k+1);have hx:=Fa _ p0 p1
  show(aN c (gk r n) (rs r c n)).Bd
  unfold aN
  (repeat' split)<;>(constructor<;>(try simp only)<;>omega)
theorem D7(t:ByteArray):(fD t).Ok:=by
 unfold fD
 split
 ·obtain⟨h1,h2,h3,h4,h5⟩:=G6 (row (ba t 0)) t 4
  obtain⟨p0,p1⟩:=ay t 0;have hz:=oD (ba t 0);unfold aI;constructor<;>simp only<;>omega
 ·constructor<;>decide
def iY(k:Nat):List Int:=((List.range k).filter (fun n:Nat=>decide (¬ rF (n:Int)=0))).map (fun n:Nat=>(n:Int))
theorem sH(k:Nat):iY (k+1)=if rF (k:Nat)=0 then iY k else iY k++[(k:Int)]:=by
 unfold iY;rw[List.range_succ,List.filter_append,List.map_append];by_cases h:rF (k:Nat)=0
 ·simp[h]
 ·simp[h]
theorem Df(k:Nat):(iY k).length≤k:=by
 unfold iY;rw[List.length_map];have:=List.length_filter_le (fun n:Nat=>decide (¬ rF (n:Int)=0)) (List.range k);simpa using this
theorem yR:(iY 164).length=113:=by decide+kernel
theorem Gg{x:Int}{k:Nat}(h:x∈iY k):¬ rF x=0:=by
 unfold iY at h;rw[List.mem_map] at h;obtain⟨n,hn,rfl⟩:=h;have:=(List.mem_filter.1 hn).2;simpa using this
def nO(q:Int):Int:=(iY 164).getD (q%65536%113).toNat 0
theorem yS(q:Int):(iY 164)[(q%65536%113).toNat]? =some (nO q):=by
 unfold nO;have hl:(q%65536%113).toNat < (iY 164).length:=by rw[yR];omega
 rw[List.getD_eq_getElem?_getD,List.getElem?_eq_getElem hl];rfl
theorem Dh(q:Int):¬ rF (nO q)=0:=Gg (List.mem_of_getElem? (yS q))
def fK(f op z q1 q2 q3 q4:Int):Ins:=
 if f=1 then⟨op,0,0,0,0,0,z⟩
 else if f=2 then⟨op,q1%8,0,0,0,0,z⟩
 else if f=3 then⟨op,0,0,q3%65536%256,0,0,z⟩
 else if f=4 then⟨op,q1%8,q2%8,0,0,0,z⟩
 else if f=5 then⟨op,q1%8,0,dW (q3%65536%256),0,0,z⟩
 else if f=18 then⟨op,q1%8,0,dW (q3%65536%256),0,0,z⟩
 else if f=6 then⟨op,q1%8,0,q3%65536,0,0,z⟩
 else if f=9 then⟨op,q1%8,0,q3%65536,0,0,z⟩
 else if f=14 then⟨op,q1%8,0,q3%65536,0,0,z⟩
 else if f=7 then⟨op,q1%8,q2%8,dW (q3%65536%256),0,0,z⟩
 else if f=8 then⟨op,q1%8,q2%8,q3%65536,0,0,z⟩
 else if f=10 then⟨op,0,0,dW (q3%65536%256),0,0,z⟩
 else if f=11 then⟨op,0,0,q3%65536,0,0,z⟩
 else if f=12 then⟨op,0,0,q3%65536,0,q4%64,z⟩
 else if f=13 then⟨op,q1%8,0,q3%65536,q2%65536,1+q4%65536%255,z⟩
 else if f=15 then⟨op,q1%8,0,q3%65536%256,0,0,z⟩
 else if f=16 then⟨op,q1%8,q2%8,q3%65536,0,q4%64,z⟩
 else⟨op,0,q2%8,q3%65536,q4%65536,0,z⟩
def fG(q0 q1 q2 q3 q4:Int):Ins:=fK (rF (nO q0)) (nO q0) (rZ (nO q0)) q1 q2 q3 q4
theorem G8(op:Int):0≤rZ op∧rZ op≤7:=by
 obtain⟨f0,f1⟩:=ku op;obtain⟨k,hk⟩:=Int.eq_ofNat_of_zero_le f0;unfold rZ;rw[hk]
 rcases(show k=0∨k=1∨k=2∨k=3∨k=4∨k=5∨k=6∨k=7∨k=8∨k=9∨k=10∨k=11∨k=12∨k=13∨k=14∨k=15∨k=16∨k=17∨k=18 by omega) with rfl|rfl|rfl|rfl|rfl|rfl|rfl|rfl|rfl|rfl|rfl|rfl|rfl|rfl|rfl|rfl|rfl|rfl|rfl<;>decide
theorem f18(f:Int)(h0:0≤f)(h1:f≤18)(h:¬ f=0):f=1∨f=2∨f=3∨f=4∨f=5∨f=6∨f=7∨f=8∨f=9∨f=10∨f=11∨f=12∨f=13∨f=14∨f=15∨f=16∨f=17∨f=18:=by omega
theorem aX(b:Int)(h0:0≤b)(h1:b < 256):0≤dW b∧dW b < 65536∧(dW b < 128∨65408≤dW b):=by unfold dW;split<;>omega
theorem zX(q0 q1 q2 q3 q4:Int):(fG q0 q1 q2 q3 q4).Ok∧rV (fG q0 q1 q2 q3 q4)=true∧(fG q0 q1 q2 q3 q4).op=nO q0:=by
 unfold fG;have hf0:=Dh q0;obtain⟨f0,f1⟩:=ku (nO q0);obtain⟨p0,p1⟩:=yE _ hf0;obtain⟨z0,z1⟩:=G8 (nO q0);obtain⟨op,hop⟩:∃ op,nO q0=op:=⟨_,rfl⟩;obtain⟨z,hz⟩:∃ z,rZ op=z:=⟨_,rfl⟩;obtain⟨f,hf⟩:∃ f,rF op=f:=⟨_,rfl⟩;rw[hop] at hf0 f0 f1 p0 p1 z0 z1⊢;rw[hz] at z0 z1;rw[hf] at hf0 f0 f1;obtain⟨x0,x1,x2⟩:=aX (q3%65536%256) (by omega) (by omega);obtain⟨X,hX⟩:∃ X,dW (q3%65536%256)=X:=⟨_,rfl⟩;rw[hX] at x0 x1 x2;have hr:∀ i:Ins,i.op=op→i.sz=z→rV i=rK f i:=by
  intro i h1 h2;unfold rV;rw[h1,h2,hf,hz,if_neg hf0,if_pos rfl]
 rw[hf,hz];rcases f18 f f0 f1 hf0 with rfl|rfl|rfl|rfl|rfl|rfl|rfl|rfl|rfl|rfl|rfl|rfl|rfl|rfl|rfl|rfl|rfl|rfl;all_goals
  refine⟨?_,?_,?_⟩
  ·simp only[fK,hX,Int.reduceEq,if_true,if_false]
   constructor<;>simp only<;>omega
  ·rw[hr _ (by simp only[fK,Int.reduceEq,if_true,if_false]) (by simp only[fK,Int.reduceEq,if_true,if_false])]
   simp only[fK,rK,rgB,sgB,bkB,hX,Int.reduceEq,if_true,if_false,Bool.and_eq_true,decide_eq_true_eq,beq_iff_eq,true_and,and_true]
   try omega
  ·simp only[fK,Int.reduceEq,if_true,if_false]
def bU(f:Int)(i:Ins):List Int:=
 if f=1 then [i.op]
 else if f=2 then [i.op,i.d]
 else if f=3 then [i.op,i.im%256]
 else if f=4 then [i.op,16*i.d+i.s]
 else if f=5 then [i.op,i.d,i.im%256]
 else if f=6 then [i.op,i.d,i.im%256,i.im/256]
 else if f=7 then [i.op,16*i.d+i.s,i.im%256]
 else if f=8 then [i.op,16*i.d+i.s,i.im%256,i.im/256]
 else if f=9 then [i.op,i.d,i.im%256,i.im/256]
 else if f=10 then [i.op,i.im%256]
 else if f=11 then [i.op,i.im%256,i.im/256]
 else if f=12 then [i.op,i.bk,i.im%256,i.im/256]
 else if f=13 then [i.op,i.d,i.bk,i.im%256,i.im/256,i.ax%256,i.ax/256]
 else if f=14 then [i.op,i.d,i.im%256,i.im/256]
 else if f=15 then [i.op,i.d,i.im%256]
 else if f=16 then [i.op,16*i.d+i.s,i.bk,i.im%256,i.im/256]
 else if f=17 then [i.op,i.s,i.im%256,i.im/256,i.ax%256,i.ax/256]
 else [i.op,i.d,i.im%256]
theorem pF(i:Ins)(hi:i.Ok)(hv:rV i=true):¬ rF i.op=0∧(0≤i.op∧i.op≤163)∧(0≤i.d∧i.d < 8)∧(0≤i.s∧i.s < 8)∧(0≤i.bk∧i.bk < 256):=by
 unfold rV at hv
 split at hv
 ·cases hv
 ·rename_i hf
  obtain⟨f0,f1⟩:=ku i.op;refine⟨hf,yE _ hf,?_⟩
  split at hv
  ·generalize rF i.op=f at*
   rcases f18 f f0 f1 hf with rfl|rfl|rfl|rfl|rfl|rfl|rfl|rfl|rfl|rfl|rfl|rfl|rfl|rfl|rfl|rfl|rfl|rfl;all_goals
    simp[rK,rgB,sgB,bkB] at hv;omega
  ·cases hv
theorem MR(r:Row)(i:Ins)(h0:r.g0=0)(h1:r.g1=0)(h2:r.g2=0)(h3:r.g3=0)(o0:0≤i.op)(o1:i.op < 256)(d0:0≤i.d)(d1:i.d < 8)(s0:0≤i.s)(s1:i.s < 8)(b0:0≤i.bk)(b1:i.bk < 256):ai r i=bU 1 i:=by
 have q1:i.op%256=i.op:=by omega
 have q2:i.d%256=i.d:=by omega
 have q3:i.s%256=i.s:=by omega
 have q4:(16*i.d+i.s)%256=16*i.d+i.s:=by omega
 have q5:i.bk%256=i.bk:=by omega
 simp[ai,wl,gk,h0,h1,h2,h3,fb,bU,q1,q2,q3,q4,q5]
theorem MQ(r:Row)(i:Ins)(h0:r.g0=1)(h1:r.g1=0)(h2:r.g2=0)(h3:r.g3=0)(o0:0≤i.op)(o1:i.op < 256)(d0:0≤i.d)(d1:i.d < 8)(s0:0≤i.s)(s1:i.s < 8)(b0:0≤i.bk)(b1:i.bk < 256):ai r i=bU 2 i:=by
 have q1:i.op%256=i.op:=by omega
 have q2:i.d%256=i.d:=by omega
 have q3:i.s%256=i.s:=by omega
 have q4:(16*i.d+i.s)%256=16*i.d+i.s:=by omega
 have q5:i.bk%256=i.bk:=by omega
 simp[ai,wl,gk,h0,h1,h2,h3,fb,bU,q1,q2,q3,q4,q5]
theorem MP(r:Row)(i:Ins)(h0:r.g0=5)(h1:r.g1=0)(h2:r.g2=0)(h3:r.g3=0)(o0:0≤i.op)(o1:i.op < 256)(d0:0≤i.d)(d1:i.d < 8)(s0:0≤i.s)(s1:i.s < 8)(b0:0≤i.bk)(b1:i.bk < 256):ai r i=bU 3 i:=by
 have q1:i.op%256=i.op:=by omega
 have q2:i.d%256=i.d:=by omega
 have q3:i.s%256=i.s:=by omega
 have q4:(16*i.d+i.s)%256=16*i.d+i.s:=by omega
 have q5:i.bk%256=i.bk:=by omega
 simp[ai,wl,gk,h0,h1,h2,h3,fb,bU,q1,q2,q3,q4,q5]
theorem MO(r:Row)(i:Ins)(h0:r.g0=3)(h1:r.g1=0)(h2:r.g2=0)(h3:r.g3=0)(o0:0≤i.op)(o1:i.op < 256)(d0:0≤i.d)(d1:i.d < 8)(s0:0≤i.s)(s1:i.s < 8)(b0:0≤i.bk)(b1:i.bk < 256):ai r i=bU 4 i:=by
 have q1:i.op%256=i.op:=by omega
 have q2:i.d%256=i.d:=by omega
 have q3:i.s%256=i.s:=by omega
 have q4:(16*i.d+i.s)%256=16*i.d+i.s:=by omega
 have q5:i.bk%256=i.bk:=by omega
 simp[ai,wl,gk,h0,h1,h2,h3,fb,bU,q1,q2,q3,q4,q5]
theorem MN(r:Row)(i:Ins)(h0:r.g0=1)(h1:r.g1=4)(h2:r.g2=0)(h3:r.g3=0)(o0:0≤i.op)(o1:i.op < 256)(d0:0≤i.d)(d1:i.d < 8)(s0:0≤i.s)(s1:i.s < 8)(b0:0≤i.bk)(b1:i.bk < 256):ai r i=bU 5 i:=by
 have q1:i.op%256=i.op:=by omega
 have q2:i.d%256=i.d:=by omega
 have q3:i.s%256=i.s:=by omega
 have q4:(16*i.d+i.s)%256=16*i.d+i.s:=by omega
 have q5:i.bk%256=i.bk:=by omega
 simp[ai,wl,gk,h0,h1,h2,h3,fb,bU,q1,q2,q3,q4,q5]
theorem MM(r:Row)(i:Ins)(h0:r.g0=1)(h1:r.g1=6)(h2:r.g2=0)(h3:r.g3=0)(o0:0≤i.op)(o1:i.op < 256)(d0:0≤i.d)(d1:i.d < 8)(s0:0≤i.s)(s1:i.s < 8)(b0:0≤i.bk)(b1:i.bk < 256):ai r i=bU 6 i:=by
 have q1:i.op%256=i.op:=by omega
 have q2:i.d%256=i.d:=by omega
 have q3:i.s%256=i.s:=by omega
 have q4:(16*i.d+i.s)%256=16*i.d+i.s:=by omega
 have q5:i.bk%256=i.bk:=by omega
 simp[ai,wl,gk,h0,h1,h2,h3,fb,bU,q1,q2,q3,q4,q5]
theorem ML(r:Row)(i:Ins)(h0:r.g0=3)(h1:r.g1=4)(h2:r.g2=0)(h3:r.g3=0)(o0:0≤i.op)(o1:i.op < 256)(d0:0≤i.d)(d1:i.d < 8)(s0:0≤i.s)(s1:i.s < 8)(b0:0≤i.bk)(b1:i.bk < 256):ai r i=bU 7 i:=by
 have q1:i.op%256=i.op:=by omega
 have q2:i.d%256=i.d:=by omega
 have q3:i.s%256=i.s:=by omega
 have q4:(16*i.d+i.s)%256=16*i.d+i.s:=by omega
 have q5:i.bk%256=i.bk:=by omega
 simp[ai,wl,gk,h0,h1,h2,h3,fb,bU,q1,q2,q3,q4,q5]
theorem MK(r:Row)(i:Ins)(h0:r.g0=3)(h1:r.g1=6)(h2:r.g2=0)(h3:r.g3=0)(o0:0≤i.op)(o1:i.op < 256)(d0:0≤i.d)(d1:i.d < 8)(s0:0≤i.s)(s1:i.s < 8)(b0:0≤i.bk)(b1:i.bk < 256):ai r i=bU 8 i:=by
 have q1:i.op%256=i.op:=by omega
 have q2:i.d%256=i.d:=by omega
 have q3:i.s%256=i.s:=by omega
 have q4:(16*i.d+i.s)%256=16*i.d+i.s:=by omega
 have q5:i.bk%256=i.bk:=by omega
 simp[ai,wl,gk,h0,h1,h2,h3,fb,bU,q1,q2,q3,q4,q5]
theorem MJ(r:Row)(i:Ins)(h0:r.g0=1)(h1:r.g1=6)(h2:r.g2=0)(h3:r.g3=0)(o0:0≤i.op)(o1:i.op < 256)(d0:0≤i.d)(d1:i.d < 8)(s0:0≤i.s)(s1:i.s < 8)(b0:0≤i.bk)(b1:i.bk < 256):ai r i=bU 9 i:=by
 have q1:i.op%256=i.op:=by omega
 have q2:i.d%256=i.d:=by omega
 have q3:i.s%256=i.s:=by omega
 have q4:(16*i.d+i.s)%256=16*i.d+i.s:=by omega
 have q5:i.bk%256=i.bk:=by omega
 simp[ai,wl,gk,h0,h1,h2,h3,fb,bU,q1,q2,q3,q4,q5]
theorem Ho(r:Row)(i:Ins)(h0:r.g0=4)(h1:r.g1=0)(h2:r.g2=0)(h3:r.g3=0)(o0:0≤i.op)(o1:i.op < 256)(d0:0≤i.d)(d1:i.d < 8)(s0:0≤i.s)(s1:i.s < 8)(b0:0≤i.bk)(b1:i.bk < 256):ai r i=bU 10 i:=by
 have q1:i.op%256=i.op:=by omega
 have q2:i.d%256=i.d:=by omega
 have q3:i.s%256=i.s:=by omega
 have q4:(16*i.d+i.s)%256=16*i.d+i.s:=by omega
 have q5:i.bk%256=i.bk:=by omega
 simp[ai,wl,gk,h0,h1,h2,h3,fb,bU,q1,q2,q3,q4,q5]
theorem Hm(r:Row)(i:Ins)(h0:r.g0=6)(h1:r.g1=0)(h2:r.g2=0)(h3:r.g3=0)(o0:0≤i.op)(o1:i.op < 256)(d0:0≤i.d)(d1:i.d < 8)(s0:0≤i.s)(s1:i.s < 8)(b0:0≤i.bk)(b1:i.bk < 256):ai r i=bU 11 i:=by
 have q1:i.op%256=i.op:=by omega
 have q2:i.d%256=i.d:=by omega
 have q3:i.s%256=i.s:=by omega
 have q4:(16*i.d+i.s)%256=16*i.d+i.s:=by omega
 have q5:i.bk%256=i.bk:=by omega
 simp[ai,wl,gk,h0,h1,h2,h3,fb,bU,q1,q2,q3,q4,q5]
theorem Le(r:Row)(i:Ins)(h0:r.g0=8)(h1:r.g1=6)(h2:r.g2=0)(h3:r.g3=0)(o0:0≤i.op)(o1:i.op < 256)(d0:0≤i.d)(d1:i.d < 8)(s0:0≤i.s)(s1:i.s < 8)(b0:0≤i.bk)(b1:i.bk < 256):ai r i=bU 12 i:=by
 have q1:i.op%256=i.op:=by omega
 have q2:i.d%256=i.d:=by omega
 have q3:i.s%256=i.s:=by omega
 have q4:(16*i.d+i.s)%256=16*i.d+i.s:=by omega
 have q5:i.bk%256=i.bk:=by omega
 simp[ai,wl,gk,h0,h1,h2,h3,fb,bU,q1,q2,q3,q4,q5]
theorem Ld(r:Row)(i:Ins)(h0:r.g0=1)(h1:r.g1=9)(h2:r.g2=6)(h3:r.g3=7)(o0:0≤i.op)(o1:i.op < 256)(d0:0≤i.d)(d1:i.d < 8)(s0:0≤i.s)(s1:i.s < 8)(b0:0≤i.bk)(b1:i.bk < 256):ai r i=bU 13 i:=by
 have q1:i.op%256=i.op:=by omega
 have q2:i.d%256=i.d:=by omega
 have q3:i.s%256=i.s:=by omega
 have q4:(16*i.d+i.s)%256=16*i.d+i.s:=by omega
 have q5:i.bk%256=i.bk:=by omega
 simp[ai,wl,gk,h0,h1,h2,h3,fb,bU,q1,q2,q3,q4,q5]
theorem Lc(r:Row)(i:Ins)(h0:r.g0=1)(h1:r.g1=6)(h2:r.g2=0)(h3:r.g3=0)(o0:0≤i.op)(o1:i.op < 256)(d0:0≤i.d)(d1:i.d < 8)(s0:0≤i.s)(s1:i.s < 8)(b0:0≤i.bk)(b1:i.bk < 256):ai r i=bU 14 i:=by
 have q1:i.op%256=i.op:=by omega
 have q2:i.d%256=i.d:=by omega
 have q3:i.s%256=i.s:=by omega
 have q4:(16*i.d+i.s)%256=16*i.d+i.s:=by omega
 have q5:i.bk%256=i.bk:=by omega
 simp[ai,wl,gk,h0,h1,h2,h3,fb,bU,q1,q2,q3,q4,q5]
theorem DZ(r:Row)(i:Ins)(h0:r.g0=1)(h1:r.g1=5)(h2:r.g2=0)(h3:r.g3=0)(o0:0≤i.op)(o1:i.op < 256)(d0:0≤i.d)(d1:i.d < 8)(s0:0≤i.s)(s1:i.s < 8)(b0:0≤i.bk)(b1:i.bk < 256):ai r i=bU 15 i:=by
 have q1:i.op%256=i.op:=by omega
 have q2:i.d%256=i.d:=by omega
 have q3:i.s%256=i.s:=by omega
 have q4:(16*i.d+i.s)%256=16*i.d+i.s:=by omega
 have q5:i.bk%256=i.bk:=by omega
 simp[ai,wl,gk,h0,h1,h2,h3,fb,bU,q1,q2,q3,q4,q5]
theorem La(r:Row)(i:Ins)(h0:r.g0=3)(h1:r.g1=8)(h2:r.g2=6)(h3:r.g3=0)(o0:0≤i.op)(o1:i.op < 256)(d0:0≤i.d)(d1:i.d < 8)(s0:0≤i.s)(s1:i.s < 8)(b0:0≤i.bk)(b1:i.bk < 256):ai r i=bU 16 i:=by
 have q1:i.op%256=i.op:=by omega
 have q2:i.d%256=i.d:=by omega
 have q3:i.s%256=i.s:=by omega
 have q4:(16*i.d+i.s)%256=16*i.d+i.s:=by omega
 have q5:i.bk%256=i.bk:=by omega
 simp[ai,wl,gk,h0,h1,h2,h3,fb,bU,q1,q2,q3,q4,q5]
theorem KZ(r:Row)(i:Ins)(h0:r.g0=2)(h1:r.g1=6)(h2:r.g2=7)(h3:r.g3=0)(o0:0≤i.op)(o1:i.op < 256)(d0:0≤i.d)(d1:i.d < 8)(s0:0≤i.s)(s1:i.s < 8)(b0:0≤i.bk)(b1:i.bk < 256):ai r i=bU 17 i:=by
 have q1:i.op%256=i.op:=by omega
 have q2:i.d%256=i.d:=by omega
 have q3:i.s%256=i.s:=by omega
 have q4:(16*i.d+i.s)%256=16*i.d+i.s:=by omega
 have q5:i.bk%256=i.bk:=by omega
 simp[ai,wl,gk,h0,h1,h2,h3,fb,bU,q1,q2,q3,q4,q5]
theorem KY(r:Row)(i:Ins)(h0:r.g0=1)(h1:r.g1=4)(h2:r.g2=0)(h3:r.g3=0)(o0:0≤i.op)(o1:i.op < 256)(d0:0≤i.d)(d1:i.d < 8)(s0:0≤i.s)(s1:i.s < 8)(b0:0≤i.bk)(b1:i.bk < 256):ai r i=bU 18 i:=by
 have q1:i.op%256=i.op:=by omega
 have q2:i.d%256=i.d:=by omega
 have q3:i.s%256=i.s:=by omega
 have q4:(16*i.d+i.s)%256=16*i.d+i.s:=by omega
 have q5:i.bk%256=i.bk:=by omega
 simp[ai,wl,gk,h0,h1,h2,h3,fb,bU,q1,q2,q3,q4,q5]
theorem Gy(i:Ins)(hk:known i.op=true)(o0:0≤i.op)(o1:i.op < 256)(d0:0≤i.d)(d1:i.d < 8)(s0:0≤i.s)(s1:i.s < 8)(b0:0≤i.bk)(b1:i.bk < 256):ai (row i.op) i=bU (rF i.op) i:=by
 rcases oH i.op with⟨h',_⟩|⟨k,hk',_,hr,hf,hz,_,_⟩
 ·rw[hk] at h';cases h'
 ·rw[hr,hf]
  rcases ik hk' with rfl|rfl|rfl|rfl|rfl|rfl|rfl|rfl|rfl|rfl|rfl|rfl|rfl|rfl|rfl|rfl|rfl|rfl|rfl|rfl|rfl|rfl
  ·exact MR (R 0) i rfl rfl rfl rfl o0 o1 d0 d1 s0 s1 b0 b1
  ·exact MQ (R 1) i rfl rfl rfl rfl o0 o1 d0 d1 s0 s1 b0 b1
  ·exact MP (R 2) i rfl rfl rfl rfl o0 o1 d0 d1 s0 s1 b0 b1
  ·exact MO (R 3) i rfl rfl rfl rfl o0 o1 d0 d1 s0 s1 b0 b1
  ·exact MN (R 4) i rfl rfl rfl rfl o0 o1 d0 d1 s0 s1 b0 b1
  ·exact MM (R 5) i rfl rfl rfl rfl o0 o1 d0 d1 s0 s1 b0 b1
  ·exact ML (R 6) i rfl rfl rfl rfl o0 o1 d0 d1 s0 s1 b0 b1
  ·exact MK (R 7) i rfl rfl rfl rfl o0 o1 d0 d1 s0 s1 b0 b1
  ·exact MJ (R 8) i rfl rfl rfl rfl o0 o1 d0 d1 s0 s1 b0 b1
  ·exact Ho (R 9) i rfl rfl rfl rfl o0 o1 d0 d1 s0 s1 b0 b1
  ·exact Hm (R 10) i rfl rfl rfl rfl o0 o1 d0 d1 s0 s1 b0 b1
  ·exact Ho (R 11) i rfl rfl rfl rfl o0 o1 d0 d1 s0 s1 b0 b1
  ·exact Hm (R 12) i rfl rfl rfl rfl o0 o1 d0 d1 s0 s1 b0 b1
  ·exact Le (R 13) i rfl rfl rfl rfl o0 o1 d0 d1 s0 s1 b0 b1
  ·exact Ld (R 14) i rfl rfl rfl rfl o0 o1 d0 d1 s0 s1 b0 b1
  ·exact Lc (R 15) i rfl rfl rfl rfl o0 o1 d0 d1 s0 s1 b0 b1
  ·exact DZ (R 16) i rfl rfl rfl rfl o0 o1 d0 d1 s0 s1 b0 b1
  ·exact DZ (R 17) i rfl rfl rfl rfl o0 o1 d0 d1 s0 s1 b0 b1
  ·exact La (R 18) i rfl rfl rfl rfl o0 o1 d0 d1 s0 s1 b0 b1
  ·exact KZ (R 19) i rfl rfl rfl rfl o0 o1 d0 d1 s0 s1 b0 b1
  ·exact DZ (R 20) i rfl rfl rfl rfl o0 o1 d0 d1 s0 s1 b0 b1
  ·exact KY (R 21) i rfl rfl rfl rfl o0 o1 d0 d1 s0 s1 b0 b1
theorem Gz(i:Ins)(hi:i.Ok):(rF i.op=0→lK i=11∧encS i=⟨#[]⟩)∧(¬ rF i.op=0→rV i=false→lK i=3∧encS i=⟨#[]⟩)∧(rV i=true→lK i=0∧encS i=bD (bU (rF i.op) i)):=by
 have hve:=valid_eq i hi;refine⟨fun h=>?_,fun h hv=>?_,fun hv=>?_⟩
 ·have hk:known i.op=false:=by
   rcases oH i.op with⟨h',_⟩|⟨k,hk',hk,hr,hf,_⟩
   ·exact h'
   ·exfalso
    rw[h] at hf;rcases ik hk' with rfl|rfl|rfl|rfl|rfl|rfl|rfl|rfl|rfl|rfl|rfl|rfl|rfl|rfl|rfl|rfl|rfl|rfl|rfl|rfl|rfl|rfl<;>revert hf<;>decide
  unfold lK encS;rw[if_neg (by rw[hk];decide),if_neg (by rw[hk];decide)];exact⟨rfl,rfl⟩
 ·have hk:known i.op=true:=by
   rcases oH i.op with⟨_,h'⟩|⟨k,hk',hk,_⟩
   ·exact absurd h' h
   ·exact hk
  rw[hv] at hve;have hb:¬ ng (row i.op) i=true:=by
   intro hb;unfold je lK at hve;rw[if_pos hk,if_pos hb] at hve
   revert hve;decide
  unfold lK encS;rw[if_pos hk,if_neg hb,if_pos hk,if_neg hb];exact⟨rfl,rfl⟩
 ·obtain⟨hf,⟨o0,o1⟩,⟨d0,d1⟩,⟨s0,s1⟩,⟨b0,b1⟩⟩:=pF i hi hv
  rw[hv] at hve;obtain⟨hk,hE,hS,_⟩:=zn hve;exact⟨hE,by rw[hS,Gy i hk o0 (by omega) d0 d1 s0 s1 b0 b1]⟩
end Go.Proofs.YthkcloapiefggaaGreatDoor
