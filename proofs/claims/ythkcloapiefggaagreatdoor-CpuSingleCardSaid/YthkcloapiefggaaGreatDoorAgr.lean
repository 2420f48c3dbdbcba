/- Writing and reading back, field by field; the code's validity is the reference's. The code's validity and encoding are the reference's. The contract of Line. Encoding and decoding, as functions: what was read writes back, reading looks at its own bytes only. The instructions that numbers determine, as a function: all are valid. The reference's Encode as a function: its bytes, by formats. -/
import Derived.Test.YthkcloapiefggaaGreatDoorIsa
namespace Go.Proofs.YthkcloapiefggaaGreatDoor
set_option linter.unusedVariables false
set_option linter.unusedSimpArgs false
set_option maxRecDepth 100000
open Go.ChangeShapes Go.WideShapes Go.RowKit
theorem ba_strB (l:List Int) (j:Nat) (n:Int) (h:l[j]? =some n) (n0:0≤n) (n1:n < 256):ba (strB l) j=n:=by
 unfold ba
 rw[strB_data,List.getElem?_map,h]
 simp only[Option.map_some,Option.getD_some]
 rw[UInt8.toNat_ofNat']
 omega
theorem back_0000 (r:Row) (i:Ins) (h0:r.g0=0) (h1:r.g1=0) (h2:r.g2=0) (h3:r.g3=0) (hi:i.Ok):
  readI r (strB (writeL r i))=⟨i.op%256,0,0,0,0,0,r.z⟩∧readB r (strB (writeL r i))=(true && decide (0 < 8) && decide (0 < 8))∧writeL r i=[i.op%256]:=by
 have m0:=hi.m0;have m1:=hi.m1;have a0:=hi.a0;have a1:=hi.a1
 have hw:writeL r i=[i.op%256]:=by simp[writeL,wl,gk,h0,h1,h2,h3,fb]
 have b0:ba (strB [i.op%256]) 0=i.op%256:=ba_strB _ 0 _ rfl (by omega) (by omega)
 refine⟨?_,?_,hw⟩
 ·rw[hw]
  simp[readI,rs,gk,h0,h1,h2,h3,rstep,b0]
 ·rw[hw]
  simp[readB,rs,gk,h0,h1,h2,h3,rstep,b0]
theorem back_1000 (r:Row) (i:Ins) (h0:r.g0=1) (h1:r.g1=0) (h2:r.g2=0) (h3:r.g3=0) (hi:i.Ok):
  readI r (strB (writeL r i))=⟨i.op%256,i.d%256,0,0,0,0,r.z⟩∧readB r (strB (writeL r i))=(true && decide (i.d%256 < 8) && decide (0 < 8))∧writeL r i=[i.op%256,i.d%256]:=by
 have m0:=hi.m0;have m1:=hi.m1;have a0:=hi.a0;have a1:=hi.a1
 have hw:writeL r i=[i.op%256,i.d%256]:=by simp[writeL,wl,gk,h0,h1,h2,h3,fb]
 have b0:ba (strB [i.op%256,i.d%256]) 0=i.op%256:=ba_strB _ 0 _ rfl (by omega) (by omega)
 have b1:ba (strB [i.op%256,i.d%256]) 1=i.d%256:=ba_strB _ 1 _ rfl (by omega) (by omega)
 refine⟨?_,?_,hw⟩
 ·rw[hw]
  simp[readI,rs,gk,h0,h1,h2,h3,rstep,b0,b1]
 ·rw[hw]
  simp[readB,rs,gk,h0,h1,h2,h3,rstep,b0,b1]
theorem back_5000 (r:Row) (i:Ins) (h0:r.g0=5) (h1:r.g1=0) (h2:r.g2=0) (h3:r.g3=0) (hi:i.Ok):
  readI r (strB (writeL r i))=⟨i.op%256,0,0,i.im%256,0,0,r.z⟩∧readB r (strB (writeL r i))=(true && decide (0 < 8) && decide (0 < 8))∧writeL r i=[i.op%256,i.im%256]:=by
 have m0:=hi.m0;have m1:=hi.m1;have a0:=hi.a0;have a1:=hi.a1
 have hw:writeL r i=[i.op%256,i.im%256]:=by simp[writeL,wl,gk,h0,h1,h2,h3,fb]
 have b0:ba (strB [i.op%256,i.im%256]) 0=i.op%256:=ba_strB _ 0 _ rfl (by omega) (by omega)
 have b1:ba (strB [i.op%256,i.im%256]) 1=i.im%256:=ba_strB _ 1 _ rfl (by omega) (by omega)
 refine⟨?_,?_,hw⟩
 ·rw[hw]
  simp[readI,rs,gk,h0,h1,h2,h3,rstep,b0,b1]
 ·rw[hw]
  simp[readB,rs,gk,h0,h1,h2,h3,rstep,b0,b1]
theorem back_3000 (r:Row) (i:Ins) (h0:r.g0=3) (h1:r.g1=0) (h2:r.g2=0) (h3:r.g3=0) (hi:i.Ok):
  readI r (strB (writeL r i))=⟨i.op%256,(16*i.d+i.s)%256/16,(16*i.d+i.s)%256%16,0,0,0,r.z⟩∧readB r (strB (writeL r i))=(true && decide ((16*i.d+i.s)%256/16 < 8) && decide ((16*i.d+i.s)%256%16 < 8))∧writeL r i=[i.op%256,(16*i.d+i.s)%256]:=by
 have m0:=hi.m0;have m1:=hi.m1;have a0:=hi.a0;have a1:=hi.a1
 have hw:writeL r i=[i.op%256,(16*i.d+i.s)%256]:=by simp[writeL,wl,gk,h0,h1,h2,h3,fb]
 have b0:ba (strB [i.op%256,(16*i.d+i.s)%256]) 0=i.op%256:=ba_strB _ 0 _ rfl (by omega) (by omega)
 have b1:ba (strB [i.op%256,(16*i.d+i.s)%256]) 1=(16*i.d+i.s)%256:=ba_strB _ 1 _ rfl (by omega) (by omega)
 refine⟨?_,?_,hw⟩
 ·rw[hw]
  simp[readI,rs,gk,h0,h1,h2,h3,rstep,b0,b1]
 ·rw[hw]
  simp[readB,rs,gk,h0,h1,h2,h3,rstep,b0,b1]
theorem back_1400 (r:Row) (i:Ins) (h0:r.g0=1) (h1:r.g1=4) (h2:r.g2=0) (h3:r.g3=0) (hi:i.Ok):
  readI r (strB (writeL r i))=⟨i.op%256,i.d%256,0,sext (i.im%256),0,0,r.z⟩∧readB r (strB (writeL r i))=(true && decide (i.d%256 < 8) && decide (0 < 8))∧writeL r i=[i.op%256,i.d%256,i.im%256]:=by
 have m0:=hi.m0;have m1:=hi.m1;have a0:=hi.a0;have a1:=hi.a1
 have hw:writeL r i=[i.op%256,i.d%256,i.im%256]:=by simp[writeL,wl,gk,h0,h1,h2,h3,fb]
 have b0:ba (strB [i.op%256,i.d%256,i.im%256]) 0=i.op%256:=ba_strB _ 0 _ rfl (by omega) (by omega)
 have b1:ba (strB [i.op%256,i.d%256,i.im%256]) 1=i.d%256:=ba_strB _ 1 _ rfl (by omega) (by omega)
 have b2:ba (strB [i.op%256,i.d%256,i.im%256]) 2=i.im%256:=ba_strB _ 2 _ rfl (by omega) (by omega)
 refine⟨?_,?_,hw⟩
 ·rw[hw]
  simp[readI,rs,gk,h0,h1,h2,h3,rstep,b0,b1,b2]
 ·rw[hw]
  simp[readB,rs,gk,h0,h1,h2,h3,rstep,b0,b1,b2]
theorem back_1600 (r:Row) (i:Ins) (h0:r.g0=1) (h1:r.g1=6) (h2:r.g2=0) (h3:r.g3=0) (hi:i.Ok):
  readI r (strB (writeL r i))=⟨i.op%256,i.d%256,0,i.im%256+256*(i.im/256),0,0,r.z⟩∧readB r (strB (writeL r i))=(true && decide (i.d%256 < 8) && decide (0 < 8))∧writeL r i=[i.op%256,i.d%256,i.im%256,i.im/256]:=by
 have m0:=hi.m0;have m1:=hi.m1;have a0:=hi.a0;have a1:=hi.a1
 have hw:writeL r i=[i.op%256,i.d%256,i.im%256,i.im/256]:=by simp[writeL,wl,gk,h0,h1,h2,h3,fb]
 have b0:ba (strB [i.op%256,i.d%256,i.im%256,i.im/256]) 0=i.op%256:=ba_strB _ 0 _ rfl (by omega) (by omega)
 have b1:ba (strB [i.op%256,i.d%256,i.im%256,i.im/256]) 1=i.d%256:=ba_strB _ 1 _ rfl (by omega) (by omega)
 have b2:ba (strB [i.op%256,i.d%256,i.im%256,i.im/256]) 2=i.im%256:=ba_strB _ 2 _ rfl (by omega) (by omega)
 have b3:ba (strB [i.op%256,i.d%256,i.im%256,i.im/256]) 3=i.im/256:=ba_strB _ 3 _ rfl (by omega) (by omega)
 refine⟨?_,?_,hw⟩
 ·rw[hw]
  simp[readI,rs,gk,h0,h1,h2,h3,rstep,b0,b1,b2,b3]
 ·rw[hw]
  simp[readB,rs,gk,h0,h1,h2,h3,rstep,b0,b1,b2,b3]
theorem back_3400 (r:Row) (i:Ins) (h0:r.g0=3) (h1:r.g1=4) (h2:r.g2=0) (h3:r.g3=0) (hi:i.Ok):
  readI r (strB (writeL r i))=⟨i.op%256,(16*i.d+i.s)%256/16,(16*i.d+i.s)%256%16,sext (i.im%256),0,0,r.z⟩∧readB r (strB (writeL r i))=(true && decide ((16*i.d+i.s)%256/16 < 8) && decide ((16*i.d+i.s)%256%16 < 8))∧writeL r i=[i.op%256,(16*i.d+i.s)%256,i.im%256]:=by
 have m0:=hi.m0;have m1:=hi.m1;have a0:=hi.a0;have a1:=hi.a1
 have hw:writeL r i=[i.op%256,(16*i.d+i.s)%256,i.im%256]:=by simp[writeL,wl,gk,h0,h1,h2,h3,fb]
 have b0:ba (strB [i.op%256,(16*i.d+i.s)%256,i.im%256]) 0=i.op%256:=ba_strB _ 0 _ rfl (by omega) (by omega)
 have b1:ba (strB [i.op%256,(16*i.d+i.s)%256,i.im%256]) 1=(16*i.d+i.s)%256:=ba_strB _ 1 _ rfl (by omega) (by omega)
 have b2:ba (strB [i.op%256,(16*i.d+i.s)%256,i.im%256]) 2=i.im%256:=ba_strB _ 2 _ rfl (by omega) (by omega)
 refine⟨?_,?_,hw⟩
 ·rw[hw]
  simp[readI,rs,gk,h0,h1,h2,h3,rstep,b0,b1,b2]
 ·rw[hw]
  simp[readB,rs,gk,h0,h1,h2,h3,rstep,b0,b1,b2]
theorem back_3600 (r:Row) (i:Ins) (h0:r.g0=3) (h1:r.g1=6) (h2:r.g2=0) (h3:r.g3=0) (hi:i.Ok):
  readI r (strB (writeL r i))=⟨i.op%256,(16*i.d+i.s)%256/16,(16*i.d+i.s)%256%16,i.im%256+256*(i.im/256),0,0,r.z⟩∧readB r (strB (writeL r i))=(true && decide ((16*i.d+i.s)%256/16 < 8) && decide ((16*i.d+i.s)%256%16 < 8))∧writeL r i=[i.op%256,(16*i.d+i.s)%256,i.im%256,i.im/256]:=by
 have m0:=hi.m0;have m1:=hi.m1;have a0:=hi.a0;have a1:=hi.a1
 have hw:writeL r i=[i.op%256,(16*i.d+i.s)%256,i.im%256,i.im/256]:=by simp[writeL,wl,gk,h0,h1,h2,h3,fb]
 have b0:ba (strB [i.op%256,(16*i.d+i.s)%256,i.im%256,i.im/256]) 0=i.op%256:=ba_strB _ 0 _ rfl (by omega) (by omega)
 have b1:ba (strB [i.op%256,(16*i.d+i.s)%256,i.im%256,i.im/256]) 1=(16*i.d+i.s)%256:=ba_strB _ 1 _ rfl (by omega) (by omega)
 have b2:ba (strB [i.op%256,(16*i.d+i.s)%256,i.im%256,i.im/256]) 2=i.im%256:=ba_strB _ 2 _ rfl (by omega) (by omega)
 have b3:ba (strB [i.op%256,(16*i.d+i.s)%256,i.im%256,i.im/256]) 3=i.im/256:=ba_strB _ 3 _ rfl (by omega) (by omega)
 refine⟨?_,?_,hw⟩
 ·rw[hw]
  simp[readI,rs,gk,h0,h1,h2,h3,rstep,b0,b1,b2,b3]
 ·rw[hw]
  simp[readB,rs,gk,h0,h1,h2,h3,rstep,b0,b1,b2,b3]
theorem back_4000 (r:Row) (i:Ins) (h0:r.g0=4) (h1:r.g1=0) (h2:r.g2=0) (h3:r.g3=0) (hi:i.Ok):
  readI r (strB (writeL r i))=⟨i.op%256,0,0,sext (i.im%256),0,0,r.z⟩∧readB r (strB (writeL r i))=(true && decide (0 < 8) && decide (0 < 8))∧writeL r i=[i.op%256,i.im%256]:=by
 have m0:=hi.m0;have m1:=hi.m1;have a0:=hi.a0;have a1:=hi.a1
 have hw:writeL r i=[i.op%256,i.im%256]:=by simp[writeL,wl,gk,h0,h1,h2,h3,fb]
 have b0:ba (strB [i.op%256,i.im%256]) 0=i.op%256:=ba_strB _ 0 _ rfl (by omega) (by omega)
 have b1:ba (strB [i.op%256,i.im%256]) 1=i.im%256:=ba_strB _ 1 _ rfl (by omega) (by omega)
 refine⟨?_,?_,hw⟩
 ·rw[hw]
  simp[readI,rs,gk,h0,h1,h2,h3,rstep,b0,b1]
 ·rw[hw]
  simp[readB,rs,gk,h0,h1,h2,h3,rstep,b0,b1]
theorem back_6000 (r:Row) (i:Ins) (h0:r.g0=6) (h1:r.g1=0) (h2:r.g2=0) (h3:r.g3=0) (hi:i.Ok):
  readI r (strB (writeL r i))=⟨i.op%256,0,0,i.im%256+256*(i.im/256),0,0,r.z⟩∧readB r (strB (writeL r i))=(true && decide (0 < 8) && decide (0 < 8))∧writeL r i=[i.op%256,i.im%256,i.im/256]:=by
 have m0:=hi.m0;have m1:=hi.m1;have a0:=hi.a0;have a1:=hi.a1
 have hw:writeL r i=[i.op%256,i.im%256,i.im/256]:=by simp[writeL,wl,gk,h0,h1,h2,h3,fb]
 have b0:ba (strB [i.op%256,i.im%256,i.im/256]) 0=i.op%256:=ba_strB _ 0 _ rfl (by omega) (by omega)
 have b1:ba (strB [i.op%256,i.im%256,i.im/256]) 1=i.im%256:=ba_strB _ 1 _ rfl (by omega) (by omega)
 have b2:ba (strB [i.op%256,i.im%256,i.im/256]) 2=i.im/256:=ba_strB _ 2 _ rfl (by omega) (by omega)
 refine⟨?_,?_,hw⟩
 ·rw[hw]
  simp[readI,rs,gk,h0,h1,h2,h3,rstep,b0,b1,b2]
 ·rw[hw]
  simp[readB,rs,gk,h0,h1,h2,h3,rstep,b0,b1,b2]
theorem back_8600 (r:Row) (i:Ins) (h0:r.g0=8) (h1:r.g1=6) (h2:r.g2=0) (h3:r.g3=0) (hi:i.Ok):
  readI r (strB (writeL r i))=⟨i.op%256,0,0,i.im%256+256*(i.im/256),0,i.bk%256,r.z⟩∧readB r (strB (writeL r i))=(decide (i.bk%256 < 64) && decide (0 < 8) && decide (0 < 8))∧writeL r i=[i.op%256,i.bk%256,i.im%256,i.im/256]:=by
 have m0:=hi.m0;have m1:=hi.m1;have a0:=hi.a0;have a1:=hi.a1
 have hw:writeL r i=[i.op%256,i.bk%256,i.im%256,i.im/256]:=by simp[writeL,wl,gk,h0,h1,h2,h3,fb]
 have b0:ba (strB [i.op%256,i.bk%256,i.im%256,i.im/256]) 0=i.op%256:=ba_strB _ 0 _ rfl (by omega) (by omega)
 have b1:ba (strB [i.op%256,i.bk%256,i.im%256,i.im/256]) 1=i.bk%256:=ba_strB _ 1 _ rfl (by omega) (by omega)
 have b2:ba (strB [i.op%256,i.bk%256,i.im%256,i.im/256]) 2=i.im%256:=ba_strB _ 2 _ rfl (by omega) (by omega)
 have b3:ba (strB [i.op%256,i.bk%256,i.im%256,i.im/256]) 3=i.im/256:=ba_strB _ 3 _ rfl (by omega) (by omega)
 refine⟨?_,?_,hw⟩
 ·rw[hw]
  simp[readI,rs,gk,h0,h1,h2,h3,rstep,b0,b1,b2,b3]
 ·rw[hw]
  simp[readB,rs,gk,h0,h1,h2,h3,rstep,b0,b1,b2,b3]
theorem back_1967 (r:Row) (i:Ins) (h0:r.g0=1) (h1:r.g1=9) (h2:r.g2=6) (h3:r.g3=7) (hi:i.Ok):
  readI r (strB (writeL r i))=⟨i.op%256,i.d%256,0,i.im%256+256*(i.im/256),i.ax%256+256*(i.ax/256),i.bk%256,r.z⟩∧readB r (strB (writeL r i))=(decide (0 < i.bk%256) && decide (i.d%256 < 8) && decide (0 < 8))∧writeL r i=[i.op%256,i.d%256,i.bk%256,i.im%256,i.im/256,i.ax%256,i.ax/256]:=by
 have m0:=hi.m0;have m1:=hi.m1;have a0:=hi.a0;have a1:=hi.a1
 have hw:writeL r i=[i.op%256,i.d%256,i.bk%256,i.im%256,i.im/256,i.ax%256,i.ax/256]:=by simp[writeL,wl,gk,h0,h1,h2,h3,fb]
 have b0:ba (strB [i.op%256,i.d%256,i.bk%256,i.im%256,i.im/256,i.ax%256,i.ax/256]) 0=i.op%256:=ba_strB _ 0 _ rfl (by omega) (by omega)
 have b1:ba (strB [i.op%256,i.d%256,i.bk%256,i.im%256,i.im/256,i.ax%256,i.ax/256]) 1=i.d%256:=ba_strB _ 1 _ rfl (by omega) (by omega)
 have b2:ba (strB [i.op%256,i.d%256,i.bk%256,i.im%256,i.im/256,i.ax%256,i.ax/256]) 2=i.bk%256:=ba_strB _ 2 _ rfl (by omega) (by omega)
 have b3:ba (strB [i.op%256,i.d%256,i.bk%256,i.im%256,i.im/256,i.ax%256,i.ax/256]) 3=i.im%256:=ba_strB _ 3 _ rfl (by omega) (by omega)
 have b4:ba (strB [i.op%256,i.d%256,i.bk%256,i.im%256,i.im/256,i.ax%256,i.ax/256]) 4=i.im/256:=ba_strB _ 4 _ rfl (by omega) (by omega)
 have b5:ba (strB [i.op%256,i.d%256,i.bk%256,i.im%256,i.im/256,i.ax%256,i.ax/256]) 5=i.ax%256:=ba_strB _ 5 _ rfl (by omega) (by omega)
 have b6:ba (strB [i.op%256,i.d%256,i.bk%256,i.im%256,i.im/256,i.ax%256,i.ax/256]) 6=i.ax/256:=ba_strB _ 6 _ rfl (by omega) (by omega)
 refine⟨?_,?_,hw⟩
 ·rw[hw]
  simp[readI,rs,gk,h0,h1,h2,h3,rstep,b0,b1,b2,b3,b4,b5,b6]
 ·rw[hw]
  simp[readB,rs,gk,h0,h1,h2,h3,rstep,b0,b1,b2,b3,b4,b5,b6]
theorem back_1500 (r:Row) (i:Ins) (h0:r.g0=1) (h1:r.g1=5) (h2:r.g2=0) (h3:r.g3=0) (hi:i.Ok):
  readI r (strB (writeL r i))=⟨i.op%256,i.d%256,0,i.im%256,0,0,r.z⟩∧readB r (strB (writeL r i))=(true && decide (i.d%256 < 8) && decide (0 < 8))∧writeL r i=[i.op%256,i.d%256,i.im%256]:=by
 have m0:=hi.m0;have m1:=hi.m1;have a0:=hi.a0;have a1:=hi.a1
 have hw:writeL r i=[i.op%256,i.d%256,i.im%256]:=by simp[writeL,wl,gk,h0,h1,h2,h3,fb]
 have b0:ba (strB [i.op%256,i.d%256,i.im%256]) 0=i.op%256:=ba_strB _ 0 _ rfl (by omega) (by omega)
 have b1:ba (strB [i.op%256,i.d%256,i.im%256]) 1=i.d%256:=ba_strB _ 1 _ rfl (by omega) (by omega)
 have b2:ba (strB [i.op%256,i.d%256,i.im%256]) 2=i.im%256:=ba_strB _ 2 _ rfl (by omega) (by omega)
 refine⟨?_,?_,hw⟩
 ·rw[hw]
  simp[readI,rs,gk,h0,h1,h2,h3,rstep,b0,b1,b2]
 ·rw[hw]
  simp[readB,rs,gk,h0,h1,h2,h3,rstep,b0,b1,b2]
theorem back_3860 (r:Row) (i:Ins) (h0:r.g0=3) (h1:r.g1=8) (h2:r.g2=6) (h3:r.g3=0) (hi:i.Ok):
  readI r (strB (writeL r i))=⟨i.op%256,(16*i.d+i.s)%256/16,(16*i.d+i.s)%256%16,i.im%256+256*(i.im/256),0,i.bk%256,r.z⟩∧readB r (strB (writeL r i))=(decide (i.bk%256 < 64) && decide ((16*i.d+i.s)%256/16 < 8) && decide ((16*i.d+i.s)%256%16 < 8))∧writeL r i=[i.op%256,(16*i.d+i.s)%256,i.bk%256,i.im%256,i.im/256]:=by
 have m0:=hi.m0;have m1:=hi.m1;have a0:=hi.a0;have a1:=hi.a1
 have hw:writeL r i=[i.op%256,(16*i.d+i.s)%256,i.bk%256,i.im%256,i.im/256]:=by simp[writeL,wl,gk,h0,h1,h2,h3,fb]
 have b0:ba (strB [i.op%256,(16*i.d+i.s)%256,i.bk%256,i.im%256,i.im/256]) 0=i.op%256:=ba_strB _ 0 _ rfl (by omega) (by omega)
 have b1:ba (strB [i.op%256,(16*i.d+i.s)%256,i.bk%256,i.im%256,i.im/256]) 1=(16*i.d+i.s)%256:=ba_strB _ 1 _ rfl (by omega) (by omega)
 have b2:ba (strB [i.op%256,(16*i.d+i.s)%256,i.bk%256,i.im%256,i.im/256]) 2=i.bk%256:=ba_strB _ 2 _ rfl (by omega) (by omega)
 have b3:ba (strB [i.op%256,(16*i.d+i.s)%256,i.bk%256,i.im%256,i.im/256]) 3=i.im%256:=ba_strB _ 3 _ rfl (by omega) (by omega)
 have b4:ba (strB [i.op%256,(16*i.d+i.s)%256,i.bk%256,i.im%256,i.im/256]) 4=i.im/256:=ba_strB _ 4 _ rfl (by omega) (by omega)
 refine⟨?_,?_,hw⟩
 ·rw[hw]
  simp[readI,rs,gk,h0,h1,h2,h3,rstep,b0,b1,b2,b3,b4]
 ·rw[hw]
  simp[readB,rs,gk,h0,h1,h2,h3,rstep,b0,b1,b2,b3,b4]
theorem back_2670 (r:Row) (i:Ins) (h0:r.g0=2) (h1:r.g1=6) (h2:r.g2=7) (h3:r.g3=0) (hi:i.Ok):
  readI r (strB (writeL r i))=⟨i.op%256,0,i.s%256,i.im%256+256*(i.im/256),i.ax%256+256*(i.ax/256),0,r.z⟩∧readB r (strB (writeL r i))=(true && decide (0 < 8) && decide (i.s%256 < 8))∧writeL r i=[i.op%256,i.s%256,i.im%256,i.im/256,i.ax%256,i.ax/256]:=by
 have m0:=hi.m0;have m1:=hi.m1;have a0:=hi.a0;have a1:=hi.a1
 have hw:writeL r i=[i.op%256,i.s%256,i.im%256,i.im/256,i.ax%256,i.ax/256]:=by simp[writeL,wl,gk,h0,h1,h2,h3,fb]
 have b0:ba (strB [i.op%256,i.s%256,i.im%256,i.im/256,i.ax%256,i.ax/256]) 0=i.op%256:=ba_strB _ 0 _ rfl (by omega) (by omega)
 have b1:ba (strB [i.op%256,i.s%256,i.im%256,i.im/256,i.ax%256,i.ax/256]) 1=i.s%256:=ba_strB _ 1 _ rfl (by omega) (by omega)
 have b2:ba (strB [i.op%256,i.s%256,i.im%256,i.im/256,i.ax%256,i.ax/256]) 2=i.im%256:=ba_strB _ 2 _ rfl (by omega) (by omega)
 have b3:ba (strB [i.op%256,i.s%256,i.im%256,i.im/256,i.ax%256,i.ax/256]) 3=i.im/256:=ba_strB _ 3 _ rfl (by omega) (by omega)
 have b4:ba (strB [i.op%256,i.s%256,i.im%256,i.im/256,i.ax%256,i.ax/256]) 4=i.ax%256:=ba_strB _ 4 _ rfl (by omega) (by omega)
 have b5:ba (strB [i.op%256,i.s%256,i.im%256,i.im/256,i.ax%256,i.ax/256]) 5=i.ax/256:=ba_strB _ 5 _ rfl (by omega) (by omega)
 refine⟨?_,?_,hw⟩
 ·rw[hw]
  simp[readI,rs,gk,h0,h1,h2,h3,rstep,b0,b1,b2,b3,b4,b5]
 ·rw[hw]
  simp[readB,rs,gk,h0,h1,h2,h3,rstep,b0,b1,b2,b3,b4,b5]
def kinds:List Int:=[1,2,3,4,5,6,7,8,9,10,11,10,11,12,13,14,15,15,16,17,15,18]
theorem tie_all:(List.range 164).all (fun n=>match fmtIx (n:Nat) with | some k=>decide (rF (n:Nat)=kinds.getD k 0∧rZ (n:Nat)=(R k).z) | none=>decide (rF (n:Nat)=0))=true:=by decide+kernel
theorem known_out (op:Int) (h:op < 0∨163 < op):known op=false∧rF op=0:=by
 refine⟨?_,by unfold rF;rw[if_pos h]⟩
 have:∀ k,k < 22→hitB op k=false:=by
  intro k hk
  unfold hitB
  rw[decide_eq_false_iff_not]
  have hb:0≤(R k).a+(R k).f∧(R k).l+(R k).f≤163:=by rcases cases22 hk with rfl | rfl | rfl | rfl | rfl | rfl | rfl | rfl | rfl | rfl | rfl | rfl | rfl | rfl | rfl | rfl | rfl | rfl | rfl | rfl | rfl | rfl<;>decide
  omega
 exact(ix_none op this).2
theorem optie (op:Int):(known op=false∧rF op=0)∨∃ k,k < 22∧known op=true∧row op=R k∧rF op=kinds.getD k 0∧rZ op=(R k).z∧0≤op∧op < 164:=by
 by_cases h:op < 0∨163 < op
 ·exact Or.inl (known_out op h)
 ·obtain⟨n,rfl⟩:=Int.eq_ofNat_of_zero_le (show 0≤op by omega)
  have:=List.all_eq_true.1 tie_all n (List.mem_range.2 (by omega))
  unfold known row
  cases hk:fmtIx (n:Int) with
  | none=>
   rw[hk] at this
   exact Or.inl ⟨rfl,by simpa using this⟩
  | some k=>
   rw[hk] at this
   simp only[decide_eq_true_eq] at this
   exact Or.inr ⟨k,by have:=List.mem_of_find?_eq_some hk;simpa using this,rfl,rfl,this.1,this.2,by omega,by omega⟩
theorem sext_sg (m:Int) (m0:0≤m) (m1:m < 65536):sext (m%256)=m↔(m < 128∨65408≤m):=by
 unfold sext;split<;>omega
theorem valid_k (i:Ins) (hi:i.Ok) (k:Nat) (hk:k < 22) (hkn:known i.op=true) (hr:row i.op=R k) (hf:rF i.op=kinds.getD k 0) (hz:rZ i.op=(R k).z) (o0:0≤i.op) (o1:i.op < 164):validV i=rV i:=by
 have hv:validV i=backB (R k) i:=by
  unfold validV encE
  rw[if_pos hkn,hr]
  cases backB (R k) i<;>rfl
 have m0:=hi.m0;have m1:=hi.m1;have a0:=hi.a0;have a1:=hi.a1
 have hx:=sext_sg i.im m0 m1
 rw[hv]
 unfold backB
 rcases cases22 hk with rfl | rfl | rfl | rfl | rfl | rfl | rfl | rfl | rfl | rfl | rfl | rfl | rfl | rfl | rfl | rfl | rfl | rfl | rfl | rfl | rfl | rfl
 ·obtain⟨h1,h2,_⟩:=back_0000 (R 0) i rfl rfl rfl rfl hi
  have hz':rZ i.op=(R 0).z:=hz
  have hf':rF i.op=1:=hf
  rw[h1,h2,Bool.eq_iff_iff]
  unfold rV
  rw[hf',hz',if_neg (by decide)]
  have hzz:(R 0).z=i.sz↔i.sz=(R 0).z:=eq_comm
  generalize (R 0).z=Z at*
  obtain⟨op,d,s,im,ax,bk,sz⟩:=i
  simp only at*
  by_cases hsz:sz=Z
  ·subst hsz
   simp only[rK,rgB,bkB,sgB,Bool.and_eq_true,decide_eq_true_eq,beq_iff_eq,Ins.mk.injEq,if_true,Int.reduceEq,if_false,true_and,and_true]
   omega
  ·simp[hsz,hzz]
 ·obtain⟨h1,h2,_⟩:=back_1000 (R 1) i rfl rfl rfl rfl hi
  have hz':rZ i.op=(R 1).z:=hz
  have hf':rF i.op=2:=hf
  rw[h1,h2,Bool.eq_iff_iff]
  unfold rV
  rw[hf',hz',if_neg (by decide)]
  have hzz:(R 1).z=i.sz↔i.sz=(R 1).z:=eq_comm
  generalize (R 1).z=Z at*
  obtain⟨op,d,s,im,ax,bk,sz⟩:=i
  simp only at*
  by_cases hsz:sz=Z
  ·subst hsz
   simp only[rK,rgB,bkB,sgB,Bool.and_eq_true,decide_eq_true_eq,beq_iff_eq,Ins.mk.injEq,if_true,Int.reduceEq,if_false,true_and,and_true]
   omega
  ·simp[hsz,hzz]
 ·obtain⟨h1,h2,_⟩:=back_5000 (R 2) i rfl rfl rfl rfl hi
  have hz':rZ i.op=(R 2).z:=hz
  have hf':rF i.op=3:=hf
  rw[h1,h2,Bool.eq_iff_iff]
  unfold rV
  rw[hf',hz',if_neg (by decide)]
  have hzz:(R 2).z=i.sz↔i.sz=(R 2).z:=eq_comm
  generalize (R 2).z=Z at*
  obtain⟨op,d,s,im,ax,bk,sz⟩:=i
  simp only at*
  by_cases hsz:sz=Z
  ·subst hsz
   simp only[rK,rgB,bkB,sgB,Bool.and_eq_true,decide_eq_true_eq,beq_iff_eq,Ins.mk.injEq,if_true,Int.reduceEq,if_false,true_and,and_true]
   omega
  ·simp[hsz,hzz]
 ·obtain⟨h1,h2,_⟩:=back_3000 (R 3) i rfl rfl rfl rfl hi
  have hz':rZ i.op=(R 3).z:=hz
  have hf':rF i.op=4:=hf
  rw[h1,h2,Bool.eq_iff_iff]
  unfold rV
  rw[hf',hz',if_neg (by decide)]
  have hzz:(R 3).z=i.sz↔i.sz=(R 3).z:=eq_comm
  generalize (R 3).z=Z at*
  obtain⟨op,d,s,im,ax,bk,sz⟩:=i
  simp only at*
  by_cases hsz:sz=Z
  ·subst hsz
   simp only[rK,rgB,bkB,sgB,Bool.and_eq_true,decide_eq_true_eq,beq_iff_eq,Ins.mk.injEq,if_true,Int.reduceEq,if_false,true_and,and_true]
   omega
  ·simp[hsz,hzz]
 ·obtain⟨h1,h2,_⟩:=back_1400 (R 4) i rfl rfl rfl rfl hi
  have hz':rZ i.op=(R 4).z:=hz
  have hf':rF i.op=5:=hf
  rw[h1,h2,Bool.eq_iff_iff]
  unfold rV
  rw[hf',hz',if_neg (by decide)]
  have hzz:(R 4).z=i.sz↔i.sz=(R 4).z:=eq_comm
  generalize (R 4).z=Z at*
  obtain⟨op,d,s,im,ax,bk,sz⟩:=i
  simp only at*
  by_cases hsz:sz=Z
  ·subst hsz
   simp only[rK,rgB,bkB,sgB,Bool.and_eq_true,decide_eq_true_eq,beq_iff_eq,Ins.mk.injEq,if_true,Int.reduceEq,if_false,true_and,and_true]
   omega
  ·simp[hsz,hzz]
 ·obtain⟨h1,h2,_⟩:=back_1600 (R 5) i rfl rfl rfl rfl hi
  have hz':rZ i.op=(R 5).z:=hz
  have hf':rF i.op=6:=hf
  rw[h1,h2,Bool.eq_iff_iff]
  unfold rV
  rw[hf',hz',if_neg (by decide)]
  have hzz:(R 5).z=i.sz↔i.sz=(R 5).z:=eq_comm
  generalize (R 5).z=Z at*
  obtain⟨op,d,s,im,ax,bk,sz⟩:=i
  simp only at*
  by_cases hsz:sz=Z
  ·subst hsz
   simp only[rK,rgB,bkB,sgB,Bool.and_eq_true,decide_eq_true_eq,beq_iff_eq,Ins.mk.injEq,if_true,Int.reduceEq,if_false,true_and,and_true]
   omega
  ·simp[hsz,hzz]
 ·obtain⟨h1,h2,_⟩:=back_3400 (R 6) i rfl rfl rfl rfl hi
  have hz':rZ i.op=(R 6).z:=hz
  have hf':rF i.op=7:=hf
  rw[h1,h2,Bool.eq_iff_iff]
  unfold rV
  rw[hf',hz',if_neg (by decide)]
  have hzz:(R 6).z=i.sz↔i.sz=(R 6).z:=eq_comm
  generalize (R 6).z=Z at*
  obtain⟨op,d,s,im,ax,bk,sz⟩:=i
  simp only at*
  by_cases hsz:sz=Z
  ·subst hsz
   simp only[rK,rgB,bkB,sgB,Bool.and_eq_true,decide_eq_true_eq,beq_iff_eq,Ins.mk.injEq,if_true,Int.reduceEq,if_false,true_and,and_true]
   omega
  ·simp[hsz,hzz]
 ·obtain⟨h1,h2,_⟩:=back_3600 (R 7) i rfl rfl rfl rfl hi
  have hz':rZ i.op=(R 7).z:=hz
  have hf':rF i.op=8:=hf
  rw[h1,h2,Bool.eq_iff_iff]
  unfold rV
  rw[hf',hz',if_neg (by decide)]
  have hzz:(R 7).z=i.sz↔i.sz=(R 7).z:=eq_comm
  generalize (R 7).z=Z at*
  obtain⟨op,d,s,im,ax,bk,sz⟩:=i
  simp only at*
  by_cases hsz:sz=Z
  ·subst hsz
   simp only[rK,rgB,bkB,sgB,Bool.and_eq_true,decide_eq_true_eq,beq_iff_eq,Ins.mk.injEq,if_true,Int.reduceEq,if_false,true_and,and_true]
   omega
  ·simp[hsz,hzz]
 ·obtain⟨h1,h2,_⟩:=back_1600 (R 8) i rfl rfl rfl rfl hi
  have hz':rZ i.op=(R 8).z:=hz
  have hf':rF i.op=9:=hf
  rw[h1,h2,Bool.eq_iff_iff]
  unfold rV
  rw[hf',hz',if_neg (by decide)]
  have hzz:(R 8).z=i.sz↔i.sz=(R 8).z:=eq_comm
  generalize (R 8).z=Z at*
  obtain⟨op,d,s,im,ax,bk,sz⟩:=i
  simp only at*
  by_cases hsz:sz=Z
  ·subst hsz
   simp only[rK,rgB,bkB,sgB,Bool.and_eq_true,decide_eq_true_eq,beq_iff_eq,Ins.mk.injEq,if_true,Int.reduceEq,if_false,true_and,and_true]
   omega
  ·simp[hsz,hzz]
 ·obtain⟨h1,h2,_⟩:=back_4000 (R 9) i rfl rfl rfl rfl hi
  have hz':rZ i.op=(R 9).z:=hz
  have hf':rF i.op=10:=hf
  rw[h1,h2,Bool.eq_iff_iff]
  unfold rV
  rw[hf',hz',if_neg (by decide)]
  have hzz:(R 9).z=i.sz↔i.sz=(R 9).z:=eq_comm
  generalize (R 9).z=Z at*
  obtain⟨op,d,s,im,ax,bk,sz⟩:=i
  simp only at*
  by_cases hsz:sz=Z
  ·subst hsz
   simp only[rK,rgB,bkB,sgB,Bool.and_eq_true,decide_eq_true_eq,beq_iff_eq,Ins.mk.injEq,if_true,Int.reduceEq,if_false,true_and,and_true]
   omega
  ·simp[hsz,hzz]
 ·obtain⟨h1,h2,_⟩:=back_6000 (R 10) i rfl rfl rfl rfl hi
  have hz':rZ i.op=(R 10).z:=hz
  have hf':rF i.op=11:=hf
  rw[h1,h2,Bool.eq_iff_iff]
  unfold rV
  rw[hf',hz',if_neg (by decide)]
  have hzz:(R 10).z=i.sz↔i.sz=(R 10).z:=eq_comm
  generalize (R 10).z=Z at*
  obtain⟨op,d,s,im,ax,bk,sz⟩:=i
  simp only at*
  by_cases hsz:sz=Z
  ·subst hsz
   simp only[rK,rgB,bkB,sgB,Bool.and_eq_true,decide_eq_true_eq,beq_iff_eq,Ins.mk.injEq,if_true,Int.reduceEq,if_false,true_and,and_true]
   omega
  ·simp[hsz,hzz]
 ·obtain⟨h1,h2,_⟩:=back_4000 (R 11) i rfl rfl rfl rfl hi
  have hz':rZ i.op=(R 11).z:=hz
  have hf':rF i.op=10:=hf
  rw[h1,h2,Bool.eq_iff_iff]
  unfold rV
  rw[hf',hz',if_neg (by decide)]
  have hzz:(R 11).z=i.sz↔i.sz=(R 11).z:=eq_comm
  generalize (R 11).z=Z at*
  obtain⟨op,d,s,im,ax,bk,sz⟩:=i
  simp only at*
  by_cases hsz:sz=Z
  ·subst hsz
   simp only[rK,rgB,bkB,sgB,Bool.and_eq_true,decide_eq_true_eq,beq_iff_eq,Ins.mk.injEq,if_true,Int.reduceEq,if_false,true_and,and_true]
   omega
  ·simp[hsz,hzz]
 ·obtain⟨h1,h2,_⟩:=back_6000 (R 12) i rfl rfl rfl rfl hi
  have hz':rZ i.op=(R 12).z:=hz
  have hf':rF i.op=11:=hf
  rw[h1,h2,Bool.eq_iff_iff]
  unfold rV
  rw[hf',hz',if_neg (by decide)]
  have hzz:(R 12).z=i.sz↔i.sz=(R 12).z:=eq_comm
  generalize (R 12).z=Z at*
  obtain⟨op,d,s,im,ax,bk,sz⟩:=i
  simp only at*
  by_cases hsz:sz=Z
  ·subst hsz
   simp only[rK,rgB,bkB,sgB,Bool.and_eq_true,decide_eq_true_eq,beq_iff_eq,Ins.mk.injEq,if_true,Int.reduceEq,if_false,true_and,and_true]
   omega
  ·simp[hsz,hzz]
 ·obtain⟨h1,h2,_⟩:=back_8600 (R 13) i rfl rfl rfl rfl hi
  have hz':rZ i.op=(R 13).z:=hz
  have hf':rF i.op=12:=hf
  rw[h1,h2,Bool.eq_iff_iff]
  unfold rV
  rw[hf',hz',if_neg (by decide)]
  have hzz:(R 13).z=i.sz↔i.sz=(R 13).z:=eq_comm
  generalize (R 13).z=Z at*
  obtain⟨op,d,s,im,ax,bk,sz⟩:=i
  simp only at*
  by_cases hsz:sz=Z
  ·subst hsz
   simp only[rK,rgB,bkB,sgB,Bool.and_eq_true,decide_eq_true_eq,beq_iff_eq,Ins.mk.injEq,if_true,Int.reduceEq,if_false,true_and,and_true]
   omega
  ·simp[hsz,hzz]
 ·obtain⟨h1,h2,_⟩:=back_1967 (R 14) i rfl rfl rfl rfl hi
  have hz':rZ i.op=(R 14).z:=hz
  have hf':rF i.op=13:=hf
  rw[h1,h2,Bool.eq_iff_iff]
  unfold rV
  rw[hf',hz',if_neg (by decide)]
  have hzz:(R 14).z=i.sz↔i.sz=(R 14).z:=eq_comm
  generalize (R 14).z=Z at*
  obtain⟨op,d,s,im,ax,bk,sz⟩:=i
  simp only at*
  by_cases hsz:sz=Z
  ·subst hsz
   simp only[rK,rgB,bkB,sgB,Bool.and_eq_true,decide_eq_true_eq,beq_iff_eq,Ins.mk.injEq,if_true,Int.reduceEq,if_false,true_and,and_true]
   omega
  ·simp[hsz,hzz]
 ·obtain⟨h1,h2,_⟩:=back_1600 (R 15) i rfl rfl rfl rfl hi
  have hz':rZ i.op=(R 15).z:=hz
  have hf':rF i.op=14:=hf
  rw[h1,h2,Bool.eq_iff_iff]
  unfold rV
  rw[hf',hz',if_neg (by decide)]
  have hzz:(R 15).z=i.sz↔i.sz=(R 15).z:=eq_comm
  generalize (R 15).z=Z at*
  obtain⟨op,d,s,im,ax,bk,sz⟩:=i
  simp only at*
  by_cases hsz:sz=Z
  ·subst hsz
   simp only[rK,rgB,bkB,sgB,Bool.and_eq_true,decide_eq_true_eq,beq_iff_eq,Ins.mk.injEq,if_true,Int.reduceEq,if_false,true_and,and_true]
   omega
  ·simp[hsz,hzz]
 ·obtain⟨h1,h2,_⟩:=back_1500 (R 16) i rfl rfl rfl rfl hi
  have hz':rZ i.op=(R 16).z:=hz
  have hf':rF i.op=15:=hf
  rw[h1,h2,Bool.eq_iff_iff]
  unfold rV
  rw[hf',hz',if_neg (by decide)]
  have hzz:(R 16).z=i.sz↔i.sz=(R 16).z:=eq_comm
  generalize (R 16).z=Z at*
  obtain⟨op,d,s,im,ax,bk,sz⟩:=i
  simp only at*
  by_cases hsz:sz=Z
  ·subst hsz
   simp only[rK,rgB,bkB,sgB,Bool.and_eq_true,decide_eq_true_eq,beq_iff_eq,Ins.mk.injEq,if_true,Int.reduceEq,if_false,true_and,and_true]
   omega
  ·simp[hsz,hzz]
 ·obtain⟨h1,h2,_⟩:=back_1500 (R 17) i rfl rfl rfl rfl hi
  have hz':rZ i.op=(R 17).z:=hz
  have hf':rF i.op=15:=hf
  rw[h1,h2,Bool.eq_iff_iff]
  unfold rV
  rw[hf',hz',if_neg (by decide)]
  have hzz:(R 17).z=i.sz↔i.sz=(R 17).z:=eq_comm
  generalize (R 17).z=Z at*
  obtain⟨op,d,s,im,ax,bk,sz⟩:=i
  simp only at*
  by_cases hsz:sz=Z
  ·subst hsz
   simp only[rK,rgB,bkB,sgB,Bool.and_eq_true,decide_eq_true_eq,beq_iff_eq,Ins.mk.injEq,if_true,Int.reduceEq,if_false,true_and,and_true]
   omega
  ·simp[hsz,hzz]
 ·obtain⟨h1,h2,_⟩:=back_3860 (R 18) i rfl rfl rfl rfl hi
  have hz':rZ i.op=(R 18).z:=hz
  have hf':rF i.op=16:=hf
  rw[h1,h2,Bool.eq_iff_iff]
  unfold rV
  rw[hf',hz',if_neg (by decide)]
  have hzz:(R 18).z=i.sz↔i.sz=(R 18).z:=eq_comm
  generalize (R 18).z=Z at*
  obtain⟨op,d,s,im,ax,bk,sz⟩:=i
  simp only at*
  by_cases hsz:sz=Z
  ·subst hsz
   simp only[rK,rgB,bkB,sgB,Bool.and_eq_true,decide_eq_true_eq,beq_iff_eq,Ins.mk.injEq,if_true,Int.reduceEq,if_false,true_and,and_true]
   omega
  ·simp[hsz,hzz]
 ·obtain⟨h1,h2,_⟩:=back_2670 (R 19) i rfl rfl rfl rfl hi
  have hz':rZ i.op=(R 19).z:=hz
  have hf':rF i.op=17:=hf
  rw[h1,h2,Bool.eq_iff_iff]
  unfold rV
  rw[hf',hz',if_neg (by decide)]
  have hzz:(R 19).z=i.sz↔i.sz=(R 19).z:=eq_comm
  generalize (R 19).z=Z at*
  obtain⟨op,d,s,im,ax,bk,sz⟩:=i
  simp only at*
  by_cases hsz:sz=Z
  ·subst hsz
   simp only[rK,rgB,bkB,sgB,Bool.and_eq_true,decide_eq_true_eq,beq_iff_eq,Ins.mk.injEq,if_true,Int.reduceEq,if_false,true_and,and_true]
   omega
  ·simp[hsz,hzz]
 ·obtain⟨h1,h2,_⟩:=back_1500 (R 20) i rfl rfl rfl rfl hi
  have hz':rZ i.op=(R 20).z:=hz
  have hf':rF i.op=15:=hf
  rw[h1,h2,Bool.eq_iff_iff]
  unfold rV
  rw[hf',hz',if_neg (by decide)]
  have hzz:(R 20).z=i.sz↔i.sz=(R 20).z:=eq_comm
  generalize (R 20).z=Z at*
  obtain⟨op,d,s,im,ax,bk,sz⟩:=i
  simp only at*
  by_cases hsz:sz=Z
  ·subst hsz
   simp only[rK,rgB,bkB,sgB,Bool.and_eq_true,decide_eq_true_eq,beq_iff_eq,Ins.mk.injEq,if_true,Int.reduceEq,if_false,true_and,and_true]
   omega
  ·simp[hsz,hzz]
 ·obtain⟨h1,h2,_⟩:=back_1400 (R 21) i rfl rfl rfl rfl hi
  have hz':rZ i.op=(R 21).z:=hz
  have hf':rF i.op=18:=hf
  rw[h1,h2,Bool.eq_iff_iff]
  unfold rV
  rw[hf',hz',if_neg (by decide)]
  have hzz:(R 21).z=i.sz↔i.sz=(R 21).z:=eq_comm
  generalize (R 21).z=Z at*
  obtain⟨op,d,s,im,ax,bk,sz⟩:=i
  simp only at*
  by_cases hsz:sz=Z
  ·subst hsz
   simp only[rK,rgB,bkB,sgB,Bool.and_eq_true,decide_eq_true_eq,beq_iff_eq,Ins.mk.injEq,if_true,Int.reduceEq,if_false,true_and,and_true]
   omega
  ·simp[hsz,hzz]
theorem valid_eq (i:Ins) (hi:i.Ok):validV i=rV i:=by
 rcases optie i.op with⟨h1,h2⟩ | ⟨k,hk,hkn,hr,hf,hz,o0,o1⟩
 ·unfold validV encE rV
  rw[h1,h2];rfl
 ·exact valid_k i hi k hk hkn hr hf hz o0 o1
theorem strB_of (l:List UInt8):strB (l.map fun b=>(b.toNat:Int))=⟨l.toArray⟩:=by
 apply ByteArray.ext
 apply Array.ext'
 rw[strB_data,List.map_map]
 conv=>rhs;rw[← List.map_id l]
 apply List.map_congr_left
 intro x _
 simp
def bL (x:ByteArray):List Int:=x.data.toList.map fun b=>(b.toNat:Int)
theorem strB_bL (x:ByteArray):strB (bL x)=x:=by unfold bL;rw[strB_of]
theorem bL_len (x:ByteArray):(bL x).length=x.size:=by unfold bL;rw[List.length_map];rfl
def pre (s:ByteArray) (n:Nat):List Int:=(List.range n).map (ba s)
theorem bL_get (s:ByteArray) (j:Nat) (h:j < s.size):(bL s)[j]? =some (ba s j):=by
 unfold bL ba
 have h':j < s.data.toList.length:=h
 rw[List.getElem?_map,List.getElem?_eq_getElem h']
 rfl
theorem pre_all (s:ByteArray):pre s s.size=bL s:=by
 apply List.ext_getElem?
 intro j
 unfold pre
 rw[List.getElem?_map]
 by_cases h:j < s.size
 ·rw[bL_get s j h,List.getElem?_range h];rfl
 ·rw[List.getElem?_eq_none (by simp;omega),List.getElem?_eq_none (by rw[bL_len];omega)];rfl
theorem strB_pre (s:ByteArray):strB (pre s s.size)=s:=by rw[pre_all,strB_bL]
theorem pre_congr {s t:ByteArray} {n:Nat} (h:∀ j,j < n→ba s j=ba t j):pre s n=pre t n:=
 List.map_congr_left fun j hj=>h j (List.mem_range.1 hj)
theorem ba_out (s:ByteArray) (j:Nat) (h:s.size≤j):ba s j=0:=by
 unfold ba
 rw[List.getElem?_eq_none (by exact h)];rfl
theorem ba_extract (s:ByteArray) (n j:Nat) (hn:n≤s.size):ba (s.extract 0 n) j=if j < n then ba s j else 0:=by
 unfold ba
 have hd:(s.extract 0 n).data.toList=s.data.toList.take n:=by
  rw[ByteArray.data_extract];simp
 rw[hd,List.getElem?_take]
 split<;>rfl
theorem strB_pre_extract (s:ByteArray) (n:Nat) (hn:n≤s.size):strB (pre s n)=s.extract 0 n:=by
 have hsz:(s.extract 0 n).size=n:=by rw[ByteArray.size_extract];omega
 rw[← strB_pre (s.extract 0 n),hsz]
 congr 1
 exact pre_congr fun j hj=>by rw[ba_extract s n j hn,if_pos hj]
theorem rs_congr (r:Row) (c d:ByteArray):∀ n,(∀ j,j < flen r n→ba c j=ba d j)→rs r c n=rs r d n
 | 0,_=>rfl
 | n+1,h=>by
  have ih:=rs_congr r c d n fun j hj=>h j (Nat.lt_of_lt_of_le hj (Nat.le_add_right _ _))
  have hk:=rs_k r d n
  show rstep c (gk r n) (rs r c n)=rstep d (gk r n) (rs r d n)
  rw[ih]
  have hf:flen r (n+1)=flen r n+fl (gk r n):=rfl
  rw[hf] at h
  obtain⟨x,hx⟩:∃ x,rs r d n=x:=⟨_,rfl⟩
  rw[hx] at hk
  rw[hx]
  have h0:0 < fl (gk r n)→ba c x.k=ba d x.k:=fun hp=>h _ (by rw[hk];omega)
  have h1:1 < fl (gk r n)→ba c (x.k+1)=ba d (x.k+1):=fun hp=>h _ (by rw[hk];omega)
  generalize gk r n=g at*
  unfold fl at h0 h1
  unfold rstep
  by_cases e1:g=1
  ·subst e1;simp at h0 ⊢;exact h0
  by_cases e2:g=2
  ·subst e2;simp at h0 ⊢;exact h0
  by_cases e3:g=3
  ·subst e3;simp at h0 ⊢;rw[h0];simp
  by_cases e4:g=4
  ·subst e4;simp at h0 ⊢;rw[h0]
  by_cases e5:g=5
  ·subst e5;simp at h0 ⊢;exact h0
  by_cases e6:g=6
  ·subst e6;simp at h0 h1 ⊢;rw[h0,h1]
  by_cases e7:g=7
  ·subst e7;simp at h0 h1 ⊢;rw[h0,h1]
  by_cases e8:g=8
  ·subst e8;simp at h0 ⊢;rw[h0];simp
  by_cases e9:g=9
  ·subst e9;simp at h0 ⊢;rw[h0];simp
  simp[e1,e2,e3,e4,e5,e6,e7,e8,e9]
theorem read_congr (r:Row) (c d:ByteArray) (h:∀ j,j < flen r 4→ba c j=ba d j):readI r c=readI r d∧readB r c=readB r d:=by
 have hr:=rs_congr r c d 4 h
 have h0:ba c 0=ba d 0:=h 0 (by have:=flen_le r 0 (by omega);have:flen r 0=1:=rfl;omega)
 unfold readI readB
 rw[hr,h0]
 exact⟨rfl,rfl⟩
theorem sext_mod (b:Int) (h0:0≤b) (h1:b < 256):sext b%256=b:=by unfold sext;split<;>omega
theorem forth_0000 (r:Row) (c:ByteArray) (h0:r.g0=0) (h1:r.g1=0) (h2:r.g2=0) (h3:r.g3=0):writeL r (readI r c)=pre c 1:=by
 obtain⟨l0,u0⟩:=ba_bd c 0
 have hp:pre c 1=[ba c 0]:=by simp[pre,List.range,List.range.loop]
 rw[hp]
 simp[writeL,wl,gk,h0,h1,h2,h3,fb,readI,rs,rstep]
 omega
theorem forth_1000 (r:Row) (c:ByteArray) (h0:r.g0=1) (h1:r.g1=0) (h2:r.g2=0) (h3:r.g3=0):writeL r (readI r c)=pre c 2:=by
 obtain⟨l0,u0⟩:=ba_bd c 0
 obtain⟨l1,u1⟩:=ba_bd c 1
 have hp:pre c 2=[ba c 0,ba c 1]:=by simp[pre,List.range,List.range.loop]
 rw[hp]
 simp[writeL,wl,gk,h0,h1,h2,h3,fb,readI,rs,rstep]
 refine⟨?_,?_⟩
 ·omega
 ·omega
theorem forth_5000 (r:Row) (c:ByteArray) (h0:r.g0=5) (h1:r.g1=0) (h2:r.g2=0) (h3:r.g3=0):writeL r (readI r c)=pre c 2:=by
 obtain⟨l0,u0⟩:=ba_bd c 0
 obtain⟨l1,u1⟩:=ba_bd c 1
 have hp:pre c 2=[ba c 0,ba c 1]:=by simp[pre,List.range,List.range.loop]
 rw[hp]
 simp[writeL,wl,gk,h0,h1,h2,h3,fb,readI,rs,rstep]
 refine⟨?_,?_⟩
 ·omega
 ·omega
theorem forth_3000 (r:Row) (c:ByteArray) (h0:r.g0=3) (h1:r.g1=0) (h2:r.g2=0) (h3:r.g3=0):writeL r (readI r c)=pre c 2:=by
 obtain⟨l0,u0⟩:=ba_bd c 0
 obtain⟨l1,u1⟩:=ba_bd c 1
 have hp:pre c 2=[ba c 0,ba c 1]:=by simp[pre,List.range,List.range.loop]
 rw[hp]
 simp[writeL,wl,gk,h0,h1,h2,h3,fb,readI,rs,rstep]
 refine⟨?_,?_⟩
 ·omega
 ·omega
theorem forth_1400 (r:Row) (c:ByteArray) (h0:r.g0=1) (h1:r.g1=4) (h2:r.g2=0) (h3:r.g3=0):writeL r (readI r c)=pre c 3:=by
 obtain⟨l0,u0⟩:=ba_bd c 0
 obtain⟨l1,u1⟩:=ba_bd c 1
 obtain⟨l2,u2⟩:=ba_bd c 2
 have hp:pre c 3=[ba c 0,ba c 1,ba c 2]:=by simp[pre,List.range,List.range.loop]
 rw[hp]
 simp[writeL,wl,gk,h0,h1,h2,h3,fb,readI,rs,rstep]
 refine⟨?_,?_,?_⟩
 ·omega
 ·omega
 ·exact sext_mod _ l2 u2
theorem forth_1600 (r:Row) (c:ByteArray) (h0:r.g0=1) (h1:r.g1=6) (h2:r.g2=0) (h3:r.g3=0):writeL r (readI r c)=pre c 4:=by
 obtain⟨l0,u0⟩:=ba_bd c 0
 obtain⟨l1,u1⟩:=ba_bd c 1
 obtain⟨l2,u2⟩:=ba_bd c 2
 obtain⟨l3,u3⟩:=ba_bd c 3
 have hp:pre c 4=[ba c 0,ba c 1,ba c 2,ba c 3]:=by simp[pre,List.range,List.range.loop]
 rw[hp]
 simp[writeL,wl,gk,h0,h1,h2,h3,fb,readI,rs,rstep]
 refine⟨?_,?_,?_,?_⟩
 ·omega
 ·omega
 ·omega
 ·omega
theorem forth_3400 (r:Row) (c:ByteArray) (h0:r.g0=3) (h1:r.g1=4) (h2:r.g2=0) (h3:r.g3=0):writeL r (readI r c)=pre c 3:=by
 obtain⟨l0,u0⟩:=ba_bd c 0
 obtain⟨l1,u1⟩:=ba_bd c 1
 obtain⟨l2,u2⟩:=ba_bd c 2
 have hp:pre c 3=[ba c 0,ba c 1,ba c 2]:=by simp[pre,List.range,List.range.loop]
 rw[hp]
 simp[writeL,wl,gk,h0,h1,h2,h3,fb,readI,rs,rstep]
 refine⟨?_,?_,?_⟩
 ·omega
 ·omega
 ·exact sext_mod _ l2 u2
theorem forth_3600 (r:Row) (c:ByteArray) (h0:r.g0=3) (h1:r.g1=6) (h2:r.g2=0) (h3:r.g3=0):writeL r (readI r c)=pre c 4:=by
 obtain⟨l0,u0⟩:=ba_bd c 0
 obtain⟨l1,u1⟩:=ba_bd c 1
 obtain⟨l2,u2⟩:=ba_bd c 2
 obtain⟨l3,u3⟩:=ba_bd c 3
 have hp:pre c 4=[ba c 0,ba c 1,ba c 2,ba c 3]:=by simp[pre,List.range,List.range.loop]
 rw[hp]
 simp[writeL,wl,gk,h0,h1,h2,h3,fb,readI,rs,rstep]
 refine⟨?_,?_,?_,?_⟩
 ·omega
 ·omega
 ·omega
 ·omega
theorem forth_4000 (r:Row) (c:ByteArray) (h0:r.g0=4) (h1:r.g1=0) (h2:r.g2=0) (h3:r.g3=0):writeL r (readI r c)=pre c 2:=by
 obtain⟨l0,u0⟩:=ba_bd c 0
 obtain⟨l1,u1⟩:=ba_bd c 1
 have hp:pre c 2=[ba c 0,ba c 1]:=by simp[pre,List.range,List.range.loop]
 rw[hp]
 simp[writeL,wl,gk,h0,h1,h2,h3,fb,readI,rs,rstep]
 refine⟨?_,?_⟩
 ·omega
 ·exact sext_mod _ l1 u1
theorem forth_6000 (r:Row) (c:ByteArray) (h0:r.g0=6) (h1:r.g1=0) (h2:r.g2=0) (h3:r.g3=0):writeL r (readI r c)=pre c 3:=by
 obtain⟨l0,u0⟩:=ba_bd c 0
 obtain⟨l1,u1⟩:=ba_bd c 1
 obtain⟨l2,u2⟩:=ba_bd c 2
 have hp:pre c 3=[ba c 0,ba c 1,ba c 2]:=by simp[pre,List.range,List.range.loop]
 rw[hp]
 simp[writeL,wl,gk,h0,h1,h2,h3,fb,readI,rs,rstep]
 refine⟨?_,?_,?_⟩
 ·omega
 ·omega
 ·omega
theorem forth_8600 (r:Row) (c:ByteArray) (h0:r.g0=8) (h1:r.g1=6) (h2:r.g2=0) (h3:r.g3=0):writeL r (readI r c)=pre c 4:=by
 obtain⟨l0,u0⟩:=ba_bd c 0
 obtain⟨l1,u1⟩:=ba_bd c 1
 obtain⟨l2,u2⟩:=ba_bd c 2
 obtain⟨l3,u3⟩:=ba_bd c 3
 have hp:pre c 4=[ba c 0,ba c 1,ba c 2,ba c 3]:=by simp[pre,List.range,List.range.loop]
 rw[hp]
 simp[writeL,wl,gk,h0,h1,h2,h3,fb,readI,rs,rstep]
 refine⟨?_,?_,?_,?_⟩
 ·omega
 ·omega
 ·omega
 ·omega
theorem forth_1967 (r:Row) (c:ByteArray) (h0:r.g0=1) (h1:r.g1=9) (h2:r.g2=6) (h3:r.g3=7):writeL r (readI r c)=pre c 7:=by
 obtain⟨l0,u0⟩:=ba_bd c 0
 obtain⟨l1,u1⟩:=ba_bd c 1
 obtain⟨l2,u2⟩:=ba_bd c 2
 obtain⟨l3,u3⟩:=ba_bd c 3
 obtain⟨l4,u4⟩:=ba_bd c 4
 obtain⟨l5,u5⟩:=ba_bd c 5
 obtain⟨l6,u6⟩:=ba_bd c 6
 have hp:pre c 7=[ba c 0,ba c 1,ba c 2,ba c 3,ba c 4,ba c 5,ba c 6]:=by simp[pre,List.range,List.range.loop]
 rw[hp]
 simp[writeL,wl,gk,h0,h1,h2,h3,fb,readI,rs,rstep]
 refine⟨?_,?_,?_,?_,?_,?_,?_⟩
 ·omega
 ·omega
 ·omega
 ·omega
 ·omega
 ·omega
 ·omega
theorem forth_1500 (r:Row) (c:ByteArray) (h0:r.g0=1) (h1:r.g1=5) (h2:r.g2=0) (h3:r.g3=0):writeL r (readI r c)=pre c 3:=by
 obtain⟨l0,u0⟩:=ba_bd c 0
 obtain⟨l1,u1⟩:=ba_bd c 1
 obtain⟨l2,u2⟩:=ba_bd c 2
 have hp:pre c 3=[ba c 0,ba c 1,ba c 2]:=by simp[pre,List.range,List.range.loop]
 rw[hp]
 simp[writeL,wl,gk,h0,h1,h2,h3,fb,readI,rs,rstep]
 refine⟨?_,?_,?_⟩
 ·omega
 ·omega
 ·omega
theorem forth_3860 (r:Row) (c:ByteArray) (h0:r.g0=3) (h1:r.g1=8) (h2:r.g2=6) (h3:r.g3=0):writeL r (readI r c)=pre c 5:=by
 obtain⟨l0,u0⟩:=ba_bd c 0
 obtain⟨l1,u1⟩:=ba_bd c 1
 obtain⟨l2,u2⟩:=ba_bd c 2
 obtain⟨l3,u3⟩:=ba_bd c 3
 obtain⟨l4,u4⟩:=ba_bd c 4
 have hp:pre c 5=[ba c 0,ba c 1,ba c 2,ba c 3,ba c 4]:=by simp[pre,List.range,List.range.loop]
 rw[hp]
 simp[writeL,wl,gk,h0,h1,h2,h3,fb,readI,rs,rstep]
 refine⟨?_,?_,?_,?_,?_⟩
 ·omega
 ·omega
 ·omega
 ·omega
 ·omega
theorem forth_2670 (r:Row) (c:ByteArray) (h0:r.g0=2) (h1:r.g1=6) (h2:r.g2=7) (h3:r.g3=0):writeL r (readI r c)=pre c 6:=by
 obtain⟨l0,u0⟩:=ba_bd c 0
 obtain⟨l1,u1⟩:=ba_bd c 1
 obtain⟨l2,u2⟩:=ba_bd c 2
 obtain⟨l3,u3⟩:=ba_bd c 3
 obtain⟨l4,u4⟩:=ba_bd c 4
 obtain⟨l5,u5⟩:=ba_bd c 5
 have hp:pre c 6=[ba c 0,ba c 1,ba c 2,ba c 3,ba c 4,ba c 5]:=by simp[pre,List.range,List.range.loop]
 rw[hp]
 simp[writeL,wl,gk,h0,h1,h2,h3,fb,readI,rs,rstep]
 refine⟨?_,?_,?_,?_,?_,?_⟩
 ·omega
 ·omega
 ·omega
 ·omega
 ·omega
 ·omega
theorem forth (op:Int) (c:ByteArray) (h:known op=true):writeL (row op) (readI (row op) c)=pre c (flen (row op) 4):=by
 rcases optie op with⟨h',_⟩ | ⟨k,hk,_,hr,_⟩
 ·rw[h] at h';cases h'
 ·rw[hr]
  rcases cases22 hk with rfl | rfl | rfl | rfl | rfl | rfl | rfl | rfl | rfl | rfl | rfl | rfl | rfl | rfl | rfl | rfl | rfl | rfl | rfl | rfl | rfl | rfl
  ·exact(forth_0000 (R 0) c rfl rfl rfl rfl)
  ·exact(forth_1000 (R 1) c rfl rfl rfl rfl)
  ·exact(forth_5000 (R 2) c rfl rfl rfl rfl)
  ·exact(forth_3000 (R 3) c rfl rfl rfl rfl)
  ·exact(forth_1400 (R 4) c rfl rfl rfl rfl)
  ·exact(forth_1600 (R 5) c rfl rfl rfl rfl)
  ·exact(forth_3400 (R 6) c rfl rfl rfl rfl)
  ·exact(forth_3600 (R 7) c rfl rfl rfl rfl)
  ·exact(forth_1600 (R 8) c rfl rfl rfl rfl)
  ·exact(forth_4000 (R 9) c rfl rfl rfl rfl)
  ·exact(forth_6000 (R 10) c rfl rfl rfl rfl)
  ·exact(forth_4000 (R 11) c rfl rfl rfl rfl)
  ·exact(forth_6000 (R 12) c rfl rfl rfl rfl)
  ·exact(forth_8600 (R 13) c rfl rfl rfl rfl)
  ·exact(forth_1967 (R 14) c rfl rfl rfl rfl)
  ·exact(forth_1600 (R 15) c rfl rfl rfl rfl)
  ·exact(forth_1500 (R 16) c rfl rfl rfl rfl)
  ·exact(forth_1500 (R 17) c rfl rfl rfl rfl)
  ·exact(forth_3860 (R 18) c rfl rfl rfl rfl)
  ·exact(forth_2670 (R 19) c rfl rfl rfl rfl)
  ·exact(forth_1500 (R 20) c rfl rfl rfl rfl)
  ·exact(forth_1400 (R 21) c rfl rfl rfl rfl)
theorem dec_ok {t:ByteArray} (h:decE t=0):0 < t.size∧known (ba t 0)=true∧(row (ba t 0)).z.toNat≤t.size∧readB (row (ba t 0)) t=true∧decI t=readI (row (ba t 0)) t:=by
 have hI:decI t=readI (row (ba t 0)) t:=by unfold decI;rw[if_pos h]
 unfold decE at h
 split at h
 ·cases h
 ·rename_i h0
  split at h
  ·cases h
  ·rename_i h1
   split at h
   ·cases h
   ·rename_i h2
    split at h
    ·rename_i h3
     exact⟨by omega,by simpa using h1,by omega,h3,hI⟩
    ·cases h
theorem dec_three (t:ByteArray):decE t=0∨(decE t=10∧decI t=zIns)∨(decE t=11∧decI t=zIns):=by
 have hI:decE t≠0→decI t=zIns:=fun h=>by unfold decI;rw[if_neg h]
 have:decE t=0∨decE t=10∨decE t=11:=by
  unfold decE;(repeat' split)<;>simp
 rcases this with h | h | h
 ·exact Or.inl h
 ·exact Or.inr (Or.inl ⟨h,hI (by rw[h];decide)⟩)
 ·exact Or.inr (Or.inr ⟨h,hI (by rw[h];decide)⟩)
theorem enc_dec {t:ByteArray} (h:decE t=0):encE (decI t)=0∧encS (decI t)=t.extract 0 (row (ba t 0)).z.toNat∧(decI t).sz=(row (ba t 0)).z∧(row (ba t 0)).z.toNat≤t.size∧(decI t).op=ba t 0:=by
 obtain⟨h0,h1,h2,h3,h4⟩:=dec_ok h
 have ho:(decI t).op=ba t 0:=by rw[h4];rfl
 have hf:=row_flen _ h1
 have hw:strB (writeL (row (ba t 0)) (decI t))=t.extract 0 (row (ba t 0)).z.toNat:=by
  rw[h4,forth _ _ h1,hf,strB_pre_extract _ _ h2]
 have hc:=read_congr (row (ba t 0)) (t.extract 0 (row (ba t 0)).z.toNat) t fun j hj=>by
  rw[ba_extract _ _ _ h2,if_pos (by omega)]
 have hb:backB (row (ba t 0)) (decI t)=true:=by
  unfold backB
  rw[hw,hc.1,hc.2,h3,← h4];simp
 unfold encE encS
 rw[ho,if_pos h1,if_pos hb,if_pos h1,if_pos hb]
 exact⟨rfl,hw,by rw[h4];rfl,h2,rfl⟩
theorem valid_enc {i:Ins} (h:validV i=true):known i.op=true∧encE i=0∧encS i=strB (writeL (row i.op) i)∧readB (row i.op) (encS i)=true∧readI (row i.op) (encS i)=i:=by
 have hE:encE i=0:=by simpa [validV] using h
 have hk:=hE
 unfold encE at hk
 split at hk
 ·rename_i h1
  split at hk
  ·rename_i h2
   have hS:encS i=strB (writeL (row i.op) i):=by unfold encS;rw[if_pos h1,if_pos h2]
   unfold backB at h2
   rw[Bool.and_eq_true,decide_eq_true_eq,← hS] at h2
   exact⟨h1,hE,hS,h2.1,h2.2⟩
  ·cases hk
 ·cases hk
structure RS.Bd (x:RS):Prop where
 d:0≤x.d∧x.d < 256
 s:0≤x.s∧x.s < 256
 m:0≤x.im∧x.im < 65536
 a:0≤x.ax∧x.ax < 65536
 b:0≤x.bk∧x.bk < 256
theorem sext_bd (b:Int) (h0:0≤b) (h1:b < 256):0≤sext b∧sext b < 65536:=by unfold sext;split<;>omega
theorem rs_bd (r:Row) (c:ByteArray):∀ n,(rs r c n).Bd
 | 0=>by constructor<;>simp[rs]
 | n+1=>by
  obtain⟨h1,h2,h3,h4,h5⟩:=rs_bd r c n
  obtain⟨p0,p1⟩:=ba_bd c (rs r c n).k
  obtain⟨q0,q1⟩:=ba_bd c ((rs r c n).k+1)
  have hx:=sext_bd _ p0 p1
  show(rstep c (gk r n) (rs r c n)).Bd
  unfold rstep
  (repeat' split)<;>(constructor<;>(try simp only)<;>omega)
theorem dec_Ok (t:ByteArray):(decI t).Ok:=by
 unfold decI
 split
 ·obtain⟨h1,h2,h3,h4,h5⟩:=rs_bd (row (ba t 0)) t 4
  obtain⟨p0,p1⟩:=ba_bd t 0
  have hz:=row_z (ba t 0)
  unfold readI
  constructor<;>simp only<;>omega
 ·constructor<;>decide
def mopN (k:Nat):List Int:=((List.range k).filter (fun n:Nat=>decide (¬ rF (n:Int)=0))).map (fun n:Nat=>(n:Int))
theorem mopN_succ (k:Nat):mopN (k+1)=if rF (k:Nat)=0 then mopN k else mopN k++[(k:Int)]:=by
 unfold mopN
 rw[List.range_succ,List.filter_append,List.map_append]
 by_cases h:rF (k:Nat)=0
 ·simp[h]
 ·simp[h]
theorem mopN_len (k:Nat):(mopN k).length≤k:=by
 unfold mopN
 rw[List.length_map]
 have:=List.length_filter_le (fun n:Nat=>decide (¬ rF (n:Int)=0)) (List.range k)
 simpa using this
theorem mop_len:(mopN 164).length=113:=by decide+kernel
theorem mop_mem {x:Int} {k:Nat} (h:x∈mopN k):¬ rF x=0:=by
 unfold mopN at h
 rw[List.mem_map] at h
 obtain⟨n,hn,rfl⟩:=h
 have:=(List.mem_filter.1 hn).2
 simpa using this
def mopA (q:Int):Int:=(mopN 164).getD (q%65536%113).toNat 0
theorem mopA_at (q:Int):(mopN 164)[(q%65536%113).toNat]? =some (mopA q):=by
 unfold mopA
 have hl:(q%65536%113).toNat < (mopN 164).length:=by rw[mop_len];omega
 rw[List.getD_eq_getElem?_getD,List.getElem?_eq_getElem hl]
 rfl
theorem mopA_f (q:Int):¬ rF (mopA q)=0:=mop_mem (List.mem_of_getElem? (mopA_at q))
def madeK (f op z q1 q2 q3 q4:Int):Ins:=
 if f=1 then⟨op,0,0,0,0,0,z⟩
 else if f=2 then⟨op,q1%8,0,0,0,0,z⟩
 else if f=3 then⟨op,0,0,q3%65536%256,0,0,z⟩
 else if f=4 then⟨op,q1%8,q2%8,0,0,0,z⟩
 else if f=5 then⟨op,q1%8,0,sext (q3%65536%256),0,0,z⟩
 else if f=18 then⟨op,q1%8,0,sext (q3%65536%256),0,0,z⟩
 else if f=6 then⟨op,q1%8,0,q3%65536,0,0,z⟩
 else if f=9 then⟨op,q1%8,0,q3%65536,0,0,z⟩
 else if f=14 then⟨op,q1%8,0,q3%65536,0,0,z⟩
 else if f=7 then⟨op,q1%8,q2%8,sext (q3%65536%256),0,0,z⟩
 else if f=8 then⟨op,q1%8,q2%8,q3%65536,0,0,z⟩
 else if f=10 then⟨op,0,0,sext (q3%65536%256),0,0,z⟩
 else if f=11 then⟨op,0,0,q3%65536,0,0,z⟩
 else if f=12 then⟨op,0,0,q3%65536,0,q4%64,z⟩
 else if f=13 then⟨op,q1%8,0,q3%65536,q2%65536,1+q4%65536%255,z⟩
 else if f=15 then⟨op,q1%8,0,q3%65536%256,0,0,z⟩
 else if f=16 then⟨op,q1%8,q2%8,q3%65536,0,q4%64,z⟩
 else⟨op,0,q2%8,q3%65536,q4%65536,0,z⟩
def madeI (q0 q1 q2 q3 q4:Int):Ins:=madeK (rF (mopA q0)) (mopA q0) (rZ (mopA q0)) q1 q2 q3 q4
theorem rZ_bd (op:Int):0≤rZ op∧rZ op≤7:=by
 obtain⟨f0,f1⟩:=rF_bd op
 obtain⟨k,hk⟩:=Int.eq_ofNat_of_zero_le f0
 unfold rZ
 rw[hk]
 rcases(show k=0∨k=1∨k=2∨k=3∨k=4∨k=5∨k=6∨k=7∨k=8∨k=9∨k=10∨k=11∨k=12∨k=13∨k=14∨k=15∨k=16∨k=17∨k=18 by omega) with rfl | rfl | rfl | rfl | rfl | rfl | rfl | rfl | rfl | rfl | rfl | rfl | rfl | rfl | rfl | rfl | rfl | rfl | rfl<;>decide
theorem f18 (f:Int) (h0:0≤f) (h1:f≤18) (h:¬ f=0):f=1∨f=2∨f=3∨f=4∨f=5∨f=6∨f=7∨f=8∨f=9∨f=10∨f=11∨f=12∨f=13∨f=14∨f=15∨f=16∨f=17∨f=18:=by omega
theorem sext_lim (b:Int) (h0:0≤b) (h1:b < 256):0≤sext b∧sext b < 65536∧(sext b < 128∨65408≤sext b):=by unfold sext;split<;>omega
theorem made_spec (q0 q1 q2 q3 q4:Int):(madeI q0 q1 q2 q3 q4).Ok∧rV (madeI q0 q1 q2 q3 q4)=true∧(madeI q0 q1 q2 q3 q4).op=mopA q0:=by
 unfold madeI
 have hf0:=mopA_f q0
 obtain⟨f0,f1⟩:=rF_bd (mopA q0)
 obtain⟨p0,p1⟩:=rF_op _ hf0
 obtain⟨z0,z1⟩:=rZ_bd (mopA q0)
 obtain⟨op,hop⟩:∃ op,mopA q0=op:=⟨_,rfl⟩
 obtain⟨z,hz⟩:∃ z,rZ op=z:=⟨_,rfl⟩
 obtain⟨f,hf⟩:∃ f,rF op=f:=⟨_,rfl⟩
 rw[hop] at hf0 f0 f1 p0 p1 z0 z1 ⊢
 rw[hz] at z0 z1
 rw[hf] at hf0 f0 f1
 obtain⟨x0,x1,x2⟩:=sext_lim (q3%65536%256) (by omega) (by omega)
 obtain⟨X,hX⟩:∃ X,sext (q3%65536%256)=X:=⟨_,rfl⟩
 rw[hX] at x0 x1 x2
 have hr:∀ i:Ins,i.op=op→i.sz=z→rV i=rK f i:=by
  intro i h1 h2
  unfold rV
  rw[h1,h2,hf,hz,if_neg hf0,if_pos rfl]
 rw[hf,hz]
 rcases f18 f f0 f1 hf0 with rfl | rfl | rfl | rfl | rfl | rfl | rfl | rfl | rfl | rfl | rfl | rfl | rfl | rfl | rfl | rfl | rfl | rfl
 all_goals
  refine⟨?_,?_,?_⟩
  ·simp only[madeK,hX,Int.reduceEq,if_true,if_false]
   constructor<;>simp only<;>omega
  ·rw[hr _ (by simp only[madeK,Int.reduceEq,if_true,if_false]) (by simp only[madeK,Int.reduceEq,if_true,if_false])]
   simp only[madeK,rK,rgB,sgB,bkB,hX,Int.reduceEq,if_true,if_false,Bool.and_eq_true,decide_eq_true_eq,beq_iff_eq,true_and,and_true]
   try omega
  ·simp only[madeK,Int.reduceEq,if_true,if_false]
def encL (f:Int) (i:Ins):List Int:=
 if f=1 then [i.op]
 else if f=2 then [i.op,i.d]
 else if f=3 then [i.op,i.im%256]
 else if f=4 then [i.op,16*i.d+i.s]
 else if f=5 then [i.op,i.d,i.im%256]
 else if f=6 then [i.op,i.d,i.im%256,i.im/256]
 else if f=7 then [i.op,16*i.d+i.s,i.im%256]
 else if f=8 then [i.op,16*i.d+i.s,i.im%256,i.im/256]
 else if f=9 then [i.op,i.d,i.im%256,i.im/256]
 else if f=10 then [i.op,i.im%256]
 else if f=11 then [i.op,i.im%256,i.im/256]
 else if f=12 then [i.op,i.bk,i.im%256,i.im/256]
 else if f=13 then [i.op,i.d,i.bk,i.im%256,i.im/256,i.ax%256,i.ax/256]
 else if f=14 then [i.op,i.d,i.im%256,i.im/256]
 else if f=15 then [i.op,i.d,i.im%256]
 else if f=16 then [i.op,16*i.d+i.s,i.bk,i.im%256,i.im/256]
 else if f=17 then [i.op,i.s,i.im%256,i.im/256,i.ax%256,i.ax/256]
 else [i.op,i.d,i.im%256]
theorem valid_bd (i:Ins) (hi:i.Ok) (hv:rV i=true):¬ rF i.op=0∧(0≤i.op∧i.op≤163)∧(0≤i.d∧i.d < 8)∧(0≤i.s∧i.s < 8)∧(0≤i.bk∧i.bk < 256):=by
 unfold rV at hv
 split at hv
 ·cases hv
 ·rename_i hf
  obtain⟨f0,f1⟩:=rF_bd i.op
  refine⟨hf,rF_op _ hf,?_⟩
  split at hv
  ·generalize rF i.op=f at*
   rcases f18 f f0 f1 hf with rfl | rfl | rfl | rfl | rfl | rfl | rfl | rfl | rfl | rfl | rfl | rfl | rfl | rfl | rfl | rfl | rfl | rfl
   all_goals
    simp[rK,rgB,sgB,bkB] at hv
    omega
  ·cases hv
theorem el_1 (r:Row) (i:Ins) (h0:r.g0=0) (h1:r.g1=0) (h2:r.g2=0) (h3:r.g3=0) (o0:0≤i.op) (o1:i.op < 256) (d0:0≤i.d) (d1:i.d < 8) (s0:0≤i.s) (s1:i.s < 8) (b0:0≤i.bk) (b1:i.bk < 256):writeL r i=encL 1 i:=by
 have q1:i.op%256=i.op:=by omega
 have q2:i.d%256=i.d:=by omega
 have q3:i.s%256=i.s:=by omega
 have q4:(16*i.d+i.s)%256=16*i.d+i.s:=by omega
 have q5:i.bk%256=i.bk:=by omega
 simp[writeL,wl,gk,h0,h1,h2,h3,fb,encL,q1,q2,q3,q4,q5]
theorem el_2 (r:Row) (i:Ins) (h0:r.g0=1) (h1:r.g1=0) (h2:r.g2=0) (h3:r.g3=0) (o0:0≤i.op) (o1:i.op < 256) (d0:0≤i.d) (d1:i.d < 8) (s0:0≤i.s) (s1:i.s < 8) (b0:0≤i.bk) (b1:i.bk < 256):writeL r i=encL 2 i:=by
 have q1:i.op%256=i.op:=by omega
 have q2:i.d%256=i.d:=by omega
 have q3:i.s%256=i.s:=by omega
 have q4:(16*i.d+i.s)%256=16*i.d+i.s:=by omega
 have q5:i.bk%256=i.bk:=by omega
 simp[writeL,wl,gk,h0,h1,h2,h3,fb,encL,q1,q2,q3,q4,q5]
theorem el_3 (r:Row) (i:Ins) (h0:r.g0=5) (h1:r.g1=0) (h2:r.g2=0) (h3:r.g3=0) (o0:0≤i.op) (o1:i.op < 256) (d0:0≤i.d) (d1:i.d < 8) (s0:0≤i.s) (s1:i.s < 8) (b0:0≤i.bk) (b1:i.bk < 256):writeL r i=encL 3 i:=by
 have q1:i.op%256=i.op:=by omega
 have q2:i.d%256=i.d:=by omega
 have q3:i.s%256=i.s:=by omega
 have q4:(16*i.d+i.s)%256=16*i.d+i.s:=by omega
 have q5:i.bk%256=i.bk:=by omega
 simp[writeL,wl,gk,h0,h1,h2,h3,fb,encL,q1,q2,q3,q4,q5]
theorem el_4 (r:Row) (i:Ins) (h0:r.g0=3) (h1:r.g1=0) (h2:r.g2=0) (h3:r.g3=0) (o0:0≤i.op) (o1:i.op < 256) (d0:0≤i.d) (d1:i.d < 8) (s0:0≤i.s) (s1:i.s < 8) (b0:0≤i.bk) (b1:i.bk < 256):writeL r i=encL 4 i:=by
 have q1:i.op%256=i.op:=by omega
 have q2:i.d%256=i.d:=by omega
 have q3:i.s%256=i.s:=by omega
 have q4:(16*i.d+i.s)%256=16*i.d+i.s:=by omega
 have q5:i.bk%256=i.bk:=by omega
 simp[writeL,wl,gk,h0,h1,h2,h3,fb,encL,q1,q2,q3,q4,q5]
theorem el_5 (r:Row) (i:Ins) (h0:r.g0=1) (h1:r.g1=4) (h2:r.g2=0) (h3:r.g3=0) (o0:0≤i.op) (o1:i.op < 256) (d0:0≤i.d) (d1:i.d < 8) (s0:0≤i.s) (s1:i.s < 8) (b0:0≤i.bk) (b1:i.bk < 256):writeL r i=encL 5 i:=by
 have q1:i.op%256=i.op:=by omega
 have q2:i.d%256=i.d:=by omega
 have q3:i.s%256=i.s:=by omega
 have q4:(16*i.d+i.s)%256=16*i.d+i.s:=by omega
 have q5:i.bk%256=i.bk:=by omega
 simp[writeL,wl,gk,h0,h1,h2,h3,fb,encL,q1,q2,q3,q4,q5]
theorem el_6 (r:Row) (i:Ins) (h0:r.g0=1) (h1:r.g1=6) (h2:r.g2=0) (h3:r.g3=0) (o0:0≤i.op) (o1:i.op < 256) (d0:0≤i.d) (d1:i.d < 8) (s0:0≤i.s) (s1:i.s < 8) (b0:0≤i.bk) (b1:i.bk < 256):writeL r i=encL 6 i:=by
 have q1:i.op%256=i.op:=by omega
 have q2:i.d%256=i.d:=by omega
 have q3:i.s%256=i.s:=by omega
 have q4:(16*i.d+i.s)%256=16*i.d+i.s:=by omega
 have q5:i.bk%256=i.bk:=by omega
 simp[writeL,wl,gk,h0,h1,h2,h3,fb,encL,q1,q2,q3,q4,q5]
theorem el_7 (r:Row) (i:Ins) (h0:r.g0=3) (h1:r.g1=4) (h2:r.g2=0) (h3:r.g3=0) (o0:0≤i.op) (o1:i.op < 256) (d0:0≤i.d) (d1:i.d < 8) (s0:0≤i.s) (s1:i.s < 8) (b0:0≤i.bk) (b1:i.bk < 256):writeL r i=encL 7 i:=by
 have q1:i.op%256=i.op:=by omega
 have q2:i.d%256=i.d:=by omega
 have q3:i.s%256=i.s:=by omega
 have q4:(16*i.d+i.s)%256=16*i.d+i.s:=by omega
 have q5:i.bk%256=i.bk:=by omega
 simp[writeL,wl,gk,h0,h1,h2,h3,fb,encL,q1,q2,q3,q4,q5]
theorem el_8 (r:Row) (i:Ins) (h0:r.g0=3) (h1:r.g1=6) (h2:r.g2=0) (h3:r.g3=0) (o0:0≤i.op) (o1:i.op < 256) (d0:0≤i.d) (d1:i.d < 8) (s0:0≤i.s) (s1:i.s < 8) (b0:0≤i.bk) (b1:i.bk < 256):writeL r i=encL 8 i:=by
 have q1:i.op%256=i.op:=by omega
 have q2:i.d%256=i.d:=by omega
 have q3:i.s%256=i.s:=by omega
 have q4:(16*i.d+i.s)%256=16*i.d+i.s:=by omega
 have q5:i.bk%256=i.bk:=by omega
 simp[writeL,wl,gk,h0,h1,h2,h3,fb,encL,q1,q2,q3,q4,q5]
theorem el_9 (r:Row) (i:Ins) (h0:r.g0=1) (h1:r.g1=6) (h2:r.g2=0) (h3:r.g3=0) (o0:0≤i.op) (o1:i.op < 256) (d0:0≤i.d) (d1:i.d < 8) (s0:0≤i.s) (s1:i.s < 8) (b0:0≤i.bk) (b1:i.bk < 256):writeL r i=encL 9 i:=by
 have q1:i.op%256=i.op:=by omega
 have q2:i.d%256=i.d:=by omega
 have q3:i.s%256=i.s:=by omega
 have q4:(16*i.d+i.s)%256=16*i.d+i.s:=by omega
 have q5:i.bk%256=i.bk:=by omega
 simp[writeL,wl,gk,h0,h1,h2,h3,fb,encL,q1,q2,q3,q4,q5]
theorem el_10 (r:Row) (i:Ins) (h0:r.g0=4) (h1:r.g1=0) (h2:r.g2=0) (h3:r.g3=0) (o0:0≤i.op) (o1:i.op < 256) (d0:0≤i.d) (d1:i.d < 8) (s0:0≤i.s) (s1:i.s < 8) (b0:0≤i.bk) (b1:i.bk < 256):writeL r i=encL 10 i:=by
 have q1:i.op%256=i.op:=by omega
 have q2:i.d%256=i.d:=by omega
 have q3:i.s%256=i.s:=by omega
 have q4:(16*i.d+i.s)%256=16*i.d+i.s:=by omega
 have q5:i.bk%256=i.bk:=by omega
 simp[writeL,wl,gk,h0,h1,h2,h3,fb,encL,q1,q2,q3,q4,q5]
theorem el_11 (r:Row) (i:Ins) (h0:r.g0=6) (h1:r.g1=0) (h2:r.g2=0) (h3:r.g3=0) (o0:0≤i.op) (o1:i.op < 256) (d0:0≤i.d) (d1:i.d < 8) (s0:0≤i.s) (s1:i.s < 8) (b0:0≤i.bk) (b1:i.bk < 256):writeL r i=encL 11 i:=by
 have q1:i.op%256=i.op:=by omega
 have q2:i.d%256=i.d:=by omega
 have q3:i.s%256=i.s:=by omega
 have q4:(16*i.d+i.s)%256=16*i.d+i.s:=by omega
 have q5:i.bk%256=i.bk:=by omega
 simp[writeL,wl,gk,h0,h1,h2,h3,fb,encL,q1,q2,q3,q4,q5]
theorem el_12 (r:Row) (i:Ins) (h0:r.g0=8) (h1:r.g1=6) (h2:r.g2=0) (h3:r.g3=0) (o0:0≤i.op) (o1:i.op < 256) (d0:0≤i.d) (d1:i.d < 8) (s0:0≤i.s) (s1:i.s < 8) (b0:0≤i.bk) (b1:i.bk < 256):writeL r i=encL 12 i:=by
 have q1:i.op%256=i.op:=by omega
 have q2:i.d%256=i.d:=by omega
 have q3:i.s%256=i.s:=by omega
 have q4:(16*i.d+i.s)%256=16*i.d+i.s:=by omega
 have q5:i.bk%256=i.bk:=by omega
 simp[writeL,wl,gk,h0,h1,h2,h3,fb,encL,q1,q2,q3,q4,q5]
theorem el_13 (r:Row) (i:Ins) (h0:r.g0=1) (h1:r.g1=9) (h2:r.g2=6) (h3:r.g3=7) (o0:0≤i.op) (o1:i.op < 256) (d0:0≤i.d) (d1:i.d < 8) (s0:0≤i.s) (s1:i.s < 8) (b0:0≤i.bk) (b1:i.bk < 256):writeL r i=encL 13 i:=by
 have q1:i.op%256=i.op:=by omega
 have q2:i.d%256=i.d:=by omega
 have q3:i.s%256=i.s:=by omega
 have q4:(16*i.d+i.s)%256=16*i.d+i.s:=by omega
 have q5:i.bk%256=i.bk:=by omega
 simp[writeL,wl,gk,h0,h1,h2,h3,fb,encL,q1,q2,q3,q4,q5]
theorem el_14 (r:Row) (i:Ins) (h0:r.g0=1) (h1:r.g1=6) (h2:r.g2=0) (h3:r.g3=0) (o0:0≤i.op) (o1:i.op < 256) (d0:0≤i.d) (d1:i.d < 8) (s0:0≤i.s) (s1:i.s < 8) (b0:0≤i.bk) (b1:i.bk < 256):writeL r i=encL 14 i:=by
 have q1:i.op%256=i.op:=by omega
 have q2:i.d%256=i.d:=by omega
 have q3:i.s%256=i.s:=by omega
 have q4:(16*i.d+i.s)%256=16*i.d+i.s:=by omega
 have q5:i.bk%256=i.bk:=by omega
 simp[writeL,wl,gk,h0,h1,h2,h3,fb,encL,q1,q2,q3,q4,q5]
theorem el_15 (r:Row) (i:Ins) (h0:r.g0=1) (h1:r.g1=5) (h2:r.g2=0) (h3:r.g3=0) (o0:0≤i.op) (o1:i.op < 256) (d0:0≤i.d) (d1:i.d < 8) (s0:0≤i.s) (s1:i.s < 8) (b0:0≤i.bk) (b1:i.bk < 256):writeL r i=encL 15 i:=by
 have q1:i.op%256=i.op:=by omega
 have q2:i.d%256=i.d:=by omega
 have q3:i.s%256=i.s:=by omega
 have q4:(16*i.d+i.s)%256=16*i.d+i.s:=by omega
 have q5:i.bk%256=i.bk:=by omega
 simp[writeL,wl,gk,h0,h1,h2,h3,fb,encL,q1,q2,q3,q4,q5]
theorem el_16 (r:Row) (i:Ins) (h0:r.g0=3) (h1:r.g1=8) (h2:r.g2=6) (h3:r.g3=0) (o0:0≤i.op) (o1:i.op < 256) (d0:0≤i.d) (d1:i.d < 8) (s0:0≤i.s) (s1:i.s < 8) (b0:0≤i.bk) (b1:i.bk < 256):writeL r i=encL 16 i:=by
 have q1:i.op%256=i.op:=by omega
 have q2:i.d%256=i.d:=by omega
 have q3:i.s%256=i.s:=by omega
 have q4:(16*i.d+i.s)%256=16*i.d+i.s:=by omega
 have q5:i.bk%256=i.bk:=by omega
 simp[writeL,wl,gk,h0,h1,h2,h3,fb,encL,q1,q2,q3,q4,q5]
theorem el_17 (r:Row) (i:Ins) (h0:r.g0=2) (h1:r.g1=6) (h2:r.g2=7) (h3:r.g3=0) (o0:0≤i.op) (o1:i.op < 256) (d0:0≤i.d) (d1:i.d < 8) (s0:0≤i.s) (s1:i.s < 8) (b0:0≤i.bk) (b1:i.bk < 256):writeL r i=encL 17 i:=by
 have q1:i.op%256=i.op:=by omega
 have q2:i.d%256=i.d:=by omega
 have q3:i.s%256=i.s:=by omega
 have q4:(16*i.d+i.s)%256=16*i.d+i.s:=by omega
 have q5:i.bk%256=i.bk:=by omega
 simp[writeL,wl,gk,h0,h1,h2,h3,fb,encL,q1,q2,q3,q4,q5]
theorem el_18 (r:Row) (i:Ins) (h0:r.g0=1) (h1:r.g1=4) (h2:r.g2=0) (h3:r.g3=0) (o0:0≤i.op) (o1:i.op < 256) (d0:0≤i.d) (d1:i.d < 8) (s0:0≤i.s) (s1:i.s < 8) (b0:0≤i.bk) (b1:i.bk < 256):writeL r i=encL 18 i:=by
 have q1:i.op%256=i.op:=by omega
 have q2:i.d%256=i.d:=by omega
 have q3:i.s%256=i.s:=by omega
 have q4:(16*i.d+i.s)%256=16*i.d+i.s:=by omega
 have q5:i.bk%256=i.bk:=by omega
 simp[writeL,wl,gk,h0,h1,h2,h3,fb,encL,q1,q2,q3,q4,q5]
theorem enc_row (i:Ins) (hk:known i.op=true) (o0:0≤i.op) (o1:i.op < 256) (d0:0≤i.d) (d1:i.d < 8) (s0:0≤i.s) (s1:i.s < 8) (b0:0≤i.bk) (b1:i.bk < 256):writeL (row i.op) i=encL (rF i.op) i:=by
 rcases optie i.op with⟨h',_⟩ | ⟨k,hk',_,hr,hf,hz,_,_⟩
 ·rw[hk] at h';cases h'
 ·rw[hr,hf]
  rcases cases22 hk' with rfl | rfl | rfl | rfl | rfl | rfl | rfl | rfl | rfl | rfl | rfl | rfl | rfl | rfl | rfl | rfl | rfl | rfl | rfl | rfl | rfl | rfl
  ·exact el_1 (R 0) i rfl rfl rfl rfl o0 o1 d0 d1 s0 s1 b0 b1
  ·exact el_2 (R 1) i rfl rfl rfl rfl o0 o1 d0 d1 s0 s1 b0 b1
  ·exact el_3 (R 2) i rfl rfl rfl rfl o0 o1 d0 d1 s0 s1 b0 b1
  ·exact el_4 (R 3) i rfl rfl rfl rfl o0 o1 d0 d1 s0 s1 b0 b1
  ·exact el_5 (R 4) i rfl rfl rfl rfl o0 o1 d0 d1 s0 s1 b0 b1
  ·exact el_6 (R 5) i rfl rfl rfl rfl o0 o1 d0 d1 s0 s1 b0 b1
  ·exact el_7 (R 6) i rfl rfl rfl rfl o0 o1 d0 d1 s0 s1 b0 b1
  ·exact el_8 (R 7) i rfl rfl rfl rfl o0 o1 d0 d1 s0 s1 b0 b1
  ·exact el_9 (R 8) i rfl rfl rfl rfl o0 o1 d0 d1 s0 s1 b0 b1
  ·exact el_10 (R 9) i rfl rfl rfl rfl o0 o1 d0 d1 s0 s1 b0 b1
  ·exact el_11 (R 10) i rfl rfl rfl rfl o0 o1 d0 d1 s0 s1 b0 b1
  ·exact el_10 (R 11) i rfl rfl rfl rfl o0 o1 d0 d1 s0 s1 b0 b1
  ·exact el_11 (R 12) i rfl rfl rfl rfl o0 o1 d0 d1 s0 s1 b0 b1
  ·exact el_12 (R 13) i rfl rfl rfl rfl o0 o1 d0 d1 s0 s1 b0 b1
  ·exact el_13 (R 14) i rfl rfl rfl rfl o0 o1 d0 d1 s0 s1 b0 b1
  ·exact el_14 (R 15) i rfl rfl rfl rfl o0 o1 d0 d1 s0 s1 b0 b1
  ·exact el_15 (R 16) i rfl rfl rfl rfl o0 o1 d0 d1 s0 s1 b0 b1
  ·exact el_15 (R 17) i rfl rfl rfl rfl o0 o1 d0 d1 s0 s1 b0 b1
  ·exact el_16 (R 18) i rfl rfl rfl rfl o0 o1 d0 d1 s0 s1 b0 b1
  ·exact el_17 (R 19) i rfl rfl rfl rfl o0 o1 d0 d1 s0 s1 b0 b1
  ·exact el_15 (R 20) i rfl rfl rfl rfl o0 o1 d0 d1 s0 s1 b0 b1
  ·exact el_18 (R 21) i rfl rfl rfl rfl o0 o1 d0 d1 s0 s1 b0 b1
theorem enc_ref (i:Ins) (hi:i.Ok):(rF i.op=0→encE i=11∧encS i=⟨#[]⟩)∧(¬ rF i.op=0→rV i=false→encE i=3∧encS i=⟨#[]⟩)∧(rV i=true→encE i=0∧encS i=strB (encL (rF i.op) i)):=by
 have hve:=valid_eq i hi
 refine⟨fun h=>?_,fun h hv=>?_,fun hv=>?_⟩
 ·have hk:known i.op=false:=by
   rcases optie i.op with⟨h',_⟩ | ⟨k,hk',hk,hr,hf,_⟩
   ·exact h'
   ·exfalso
    rw[h] at hf
    rcases cases22 hk' with rfl | rfl | rfl | rfl | rfl | rfl | rfl | rfl | rfl | rfl | rfl | rfl | rfl | rfl | rfl | rfl | rfl | rfl | rfl | rfl | rfl | rfl<;>revert hf<;>decide
  unfold encE encS
  rw[if_neg (by rw[hk];decide),if_neg (by rw[hk];decide)]
  exact⟨rfl,rfl⟩
 ·have hk:known i.op=true:=by
   rcases optie i.op with⟨_,h'⟩ | ⟨k,hk',hk,_⟩
   ·exact absurd h' h
   ·exact hk
  rw[hv] at hve
  have hb:¬ backB (row i.op) i=true:=by
   intro hb
   unfold validV encE at hve
   rw[if_pos hk,if_pos hb] at hve
   revert hve;decide
  unfold encE encS
  rw[if_pos hk,if_neg hb,if_pos hk,if_neg hb]
  exact⟨rfl,rfl⟩
 ·obtain⟨hf,⟨o0,o1⟩,⟨d0,d1⟩,⟨s0,s1⟩,⟨b0,b1⟩⟩:=valid_bd i hi hv
  rw[hv] at hve
  obtain⟨hk,hE,hS,_⟩:=valid_enc hve
  exact⟨hE,by rw[hS,enc_row i hk o0 (by omega) d0 d1 s0 s1 b0 b1]⟩
end Go.Proofs.YthkcloapiefggaaGreatDoor
