import Derived.Test.YthkcloapiefggaaGreatDoorQAgr
import Derived.Test.YthkcloapiefggaaGreatDoorQXma
import Derived.BigQuiet
import Derived.Deep.DeepCutAuto
import Derived.Deep.RegionHeld3
namespace Go.Proofs.YthkcloapiefggaaGreatDoor
set_option linter.unusedVariables false
set_option linter.unusedSimpArgs false
set_option maxRecDepth 100000
open Go.ChangeShapes Go.WideShapes Go.RowKit
def az(f op z:Int)(c:ByteArray):Ins:=
 if f=1 then⟨op,0,0,0,0,0,z⟩
 else if f=2 then⟨op,ba c 1,0,0,0,0,z⟩
 else if f=3 then⟨op,0,0,ba c 1,0,0,z⟩
 else if f=4 then⟨op,ba c 1/16,ba c 1%16,0,0,0,z⟩
 else if f=5 then⟨op,ba c 1,0,dW (ba c 2),0,0,z⟩
 else if f=6 then⟨op,ba c 1,0,(ba c 2+256*ba c 3),0,0,z⟩
 else if f=7 then⟨op,ba c 1/16,ba c 1%16,dW (ba c 2),0,0,z⟩
 else if f=8 then⟨op,ba c 1/16,ba c 1%16,(ba c 2+256*ba c 3),0,0,z⟩
 else if f=9 then⟨op,ba c 1,0,(ba c 2+256*ba c 3),0,0,z⟩
 else if f=10 then⟨op,0,0,dW (ba c 1),0,0,z⟩
 else if f=11 then⟨op,0,0,(ba c 1+256*ba c 2),0,0,z⟩
 else if f=12 then⟨op,0,0,(ba c 2+256*ba c 3),0,ba c 1,z⟩
 else if f=13 then⟨op,ba c 1,0,(ba c 3+256*ba c 4),(ba c 5+256*ba c 6),ba c 2,z⟩
 else if f=14 then⟨op,ba c 1,0,(ba c 2+256*ba c 3),0,0,z⟩
 else if f=15 then⟨op,ba c 1,0,ba c 2,0,0,z⟩
 else if f=16 then⟨op,ba c 1/16,ba c 1%16,(ba c 3+256*ba c 4),0,ba c 2,z⟩
 else if f=17 then⟨op,0,ba c 1,(ba c 2+256*ba c 3),(ba c 4+256*ba c 5),0,z⟩
 else⟨op,ba c 1,0,dW (ba c 2),0,0,z⟩
theorem MG(r:Row)(c:ByteArray)(h0:r.g0=0)(h1:r.g1=0)(h2:r.g2=0)(h3:r.g3=0):aI r c=az 1 (ba c 0) r.z c∧readB r c=rK 1 (az 1 (ba c 0) r.z c):=by
 obtain⟨l1,u1⟩:=ay c 1;obtain⟨l2,u2⟩:=ay c 2;obtain⟨_,_,x1⟩:=aX _ l1 u1;obtain⟨_,_,x2⟩:=aX _ l2 u2;refine⟨by simp[aI,rs,aN,gk,h0,h1,h2,h3,az],?_⟩;rw[Bool.eq_iff_iff];simp[readB,rs,aN,gk,h0,h1,h2,h3,az,rK,rgB,sgB,bkB]
 try omega
 try (by_cases hh:ba c 1 < 64<;>simp[hh]<;>omega)
theorem MF(r:Row)(c:ByteArray)(h0:r.g0=1)(h1:r.g1=0)(h2:r.g2=0)(h3:r.g3=0):aI r c=az 2 (ba c 0) r.z c∧readB r c=rK 2 (az 2 (ba c 0) r.z c):=by
 obtain⟨l1,u1⟩:=ay c 1;obtain⟨l2,u2⟩:=ay c 2;obtain⟨_,_,x1⟩:=aX _ l1 u1;obtain⟨_,_,x2⟩:=aX _ l2 u2;refine⟨by simp[aI,rs,aN,gk,h0,h1,h2,h3,az],?_⟩;rw[Bool.eq_iff_iff];simp[readB,rs,aN,gk,h0,h1,h2,h3,az,rK,rgB,sgB,bkB]
 try omega
 try (by_cases hh:ba c 1 < 64<;>simp[hh]<;>omega)
theorem MC(r:Row)(c:ByteArray)(h0:r.g0=5)(h1:r.g1=0)(h2:r.g2=0)(h3:r.g3=0):aI r c=az 3 (ba c 0) r.z c∧readB r c=rK 3 (az 3 (ba c 0) r.z c):=by
 obtain⟨l1,u1⟩:=ay c 1;obtain⟨l2,u2⟩:=ay c 2;obtain⟨_,_,x1⟩:=aX _ l1 u1;obtain⟨_,_,x2⟩:=aX _ l2 u2;refine⟨by simp[aI,rs,aN,gk,h0,h1,h2,h3,az],?_⟩;rw[Bool.eq_iff_iff];simp[readB,rs,aN,gk,h0,h1,h2,h3,az,rK,rgB,sgB,bkB]
 try omega
 try (by_cases hh:ba c 1 < 64<;>simp[hh]<;>omega)
theorem MB(r:Row)(c:ByteArray)(h0:r.g0=3)(h1:r.g1=0)(h2:r.g2=0)(h3:r.g3=0):aI r c=az 4 (ba c 0) r.z c∧readB r c=rK 4 (az 4 (ba c 0) r.z c):=by
 obtain⟨l1,u1⟩:=ay c 1;obtain⟨l2,u2⟩:=ay c 2;obtain⟨_,_,x1⟩:=aX _ l1 u1;obtain⟨_,_,x2⟩:=aX _ l2 u2;refine⟨by simp[aI,rs,aN,gk,h0,h1,h2,h3,az],?_⟩;rw[Bool.eq_iff_iff];simp[readB,rs,aN,gk,h0,h1,h2,h3,az,rK,rgB,sgB,bkB]
 try omega
 try (by_cases hh:ba c 1 < 64<;>simp[hh]<;>omega)
theorem Me(r:Row)(c:ByteArray)(h0:r.g0=1)(h1:r.g1=4)(h2:r.g2=0)(h3:r.g3=0):aI r c=az 5 (ba c 0) r.z c∧readB r c=rK 5 (az 5 (ba c 0) r.z c):=by
 obtain⟨l1,u1⟩:=ay c 1;obtain⟨l2,u2⟩:=ay c 2;obtain⟨_,_,x1⟩:=aX _ l1 u1;obtain⟨_,_,x2⟩:=aX _ l2 u2;refine⟨by simp[aI,rs,aN,gk,h0,h1,h2,h3,az],?_⟩;rw[Bool.eq_iff_iff];simp[readB,rs,aN,gk,h0,h1,h2,h3,az,rK,rgB,sgB,bkB]
 try omega
 try (by_cases hh:ba c 1 < 64<;>simp[hh]<;>omega)
theorem Md(r:Row)(c:ByteArray)(h0:r.g0=1)(h1:r.g1=6)(h2:r.g2=0)(h3:r.g3=0):aI r c=az 6 (ba c 0) r.z c∧readB r c=rK 6 (az 6 (ba c 0) r.z c):=by
 obtain⟨l1,u1⟩:=ay c 1;obtain⟨l2,u2⟩:=ay c 2;obtain⟨_,_,x1⟩:=aX _ l1 u1;obtain⟨_,_,x2⟩:=aX _ l2 u2;refine⟨by simp[aI,rs,aN,gk,h0,h1,h2,h3,az],?_⟩;rw[Bool.eq_iff_iff];simp[readB,rs,aN,gk,h0,h1,h2,h3,az,rK,rgB,sgB,bkB]
 try omega
 try (by_cases hh:ba c 1 < 64<;>simp[hh]<;>omega)
theorem LZ(r:Row)(c:ByteArray)(h0:r.g0=3)(h1:r.g1=4)(h2:r.g2=0)(h3:r.g3=0):aI r c=az 7 (ba c 0) r.z c∧readB r c=rK 7 (az 7 (ba c 0) r.z c):=by
 obtain⟨l1,u1⟩:=ay c 1;obtain⟨l2,u2⟩:=ay c 2;obtain⟨_,_,x1⟩:=aX _ l1 u1;obtain⟨_,_,x2⟩:=aX _ l2 u2;refine⟨by simp[aI,rs,aN,gk,h0,h1,h2,h3,az],?_⟩;rw[Bool.eq_iff_iff];simp[readB,rs,aN,gk,h0,h1,h2,h3,az,rK,rgB,sgB,bkB]
 try omega
 try (by_cases hh:ba c 1 < 64<;>simp[hh]<;>omega)
theorem LY(r:Row)(c:ByteArray)(h0:r.g0=3)(h1:r.g1=6)(h2:r.g2=0)(h3:r.g3=0):aI r c=az 8 (ba c 0) r.z c∧readB r c=rK 8 (az 8 (ba c 0) r.z c):=by
 obtain⟨l1,u1⟩:=ay c 1;obtain⟨l2,u2⟩:=ay c 2;obtain⟨_,_,x1⟩:=aX _ l1 u1;obtain⟨_,_,x2⟩:=aX _ l2 u2;refine⟨by simp[aI,rs,aN,gk,h0,h1,h2,h3,az],?_⟩;rw[Bool.eq_iff_iff];simp[readB,rs,aN,gk,h0,h1,h2,h3,az,rK,rgB,sgB,bkB]
 try omega
 try (by_cases hh:ba c 1 < 64<;>simp[hh]<;>omega)
theorem LX(r:Row)(c:ByteArray)(h0:r.g0=1)(h1:r.g1=6)(h2:r.g2=0)(h3:r.g3=0):aI r c=az 9 (ba c 0) r.z c∧readB r c=rK 9 (az 9 (ba c 0) r.z c):=by
 obtain⟨l1,u1⟩:=ay c 1;obtain⟨l2,u2⟩:=ay c 2;obtain⟨_,_,x1⟩:=aX _ l1 u1;obtain⟨_,_,x2⟩:=aX _ l2 u2;refine⟨by simp[aI,rs,aN,gk,h0,h1,h2,h3,az],?_⟩;rw[Bool.eq_iff_iff];simp[readB,rs,aN,gk,h0,h1,h2,h3,az,rK,rgB,sgB,bkB]
 try omega
 try (by_cases hh:ba c 1 < 64<;>simp[hh]<;>omega)
theorem Hl(r:Row)(c:ByteArray)(h0:r.g0=4)(h1:r.g1=0)(h2:r.g2=0)(h3:r.g3=0):aI r c=az 10 (ba c 0) r.z c∧readB r c=rK 10 (az 10 (ba c 0) r.z c):=by
 obtain⟨l1,u1⟩:=ay c 1;obtain⟨l2,u2⟩:=ay c 2;obtain⟨_,_,x1⟩:=aX _ l1 u1;obtain⟨_,_,x2⟩:=aX _ l2 u2;refine⟨by simp[aI,rs,aN,gk,h0,h1,h2,h3,az],?_⟩;rw[Bool.eq_iff_iff];simp[readB,rs,aN,gk,h0,h1,h2,h3,az,rK,rgB,sgB,bkB]
 try omega
 try (by_cases hh:ba c 1 < 64<;>simp[hh]<;>omega)
theorem Hg(r:Row)(c:ByteArray)(h0:r.g0=6)(h1:r.g1=0)(h2:r.g2=0)(h3:r.g3=0):aI r c=az 11 (ba c 0) r.z c∧readB r c=rK 11 (az 11 (ba c 0) r.z c):=by
 obtain⟨l1,u1⟩:=ay c 1;obtain⟨l2,u2⟩:=ay c 2;obtain⟨_,_,x1⟩:=aX _ l1 u1;obtain⟨_,_,x2⟩:=aX _ l2 u2;refine⟨by simp[aI,rs,aN,gk,h0,h1,h2,h3,az],?_⟩;rw[Bool.eq_iff_iff];simp[readB,rs,aN,gk,h0,h1,h2,h3,az,rK,rgB,sgB,bkB]
 try omega
 try (by_cases hh:ba c 1 < 64<;>simp[hh]<;>omega)
theorem KR(r:Row)(c:ByteArray)(h0:r.g0=8)(h1:r.g1=6)(h2:r.g2=0)(h3:r.g3=0):aI r c=az 12 (ba c 0) r.z c∧readB r c=rK 12 (az 12 (ba c 0) r.z c):=by
 obtain⟨l1,u1⟩:=ay c 1;obtain⟨l2,u2⟩:=ay c 2;obtain⟨_,_,x1⟩:=aX _ l1 u1;obtain⟨_,_,x2⟩:=aX _ l2 u2;refine⟨by simp[aI,rs,aN,gk,h0,h1,h2,h3,az],?_⟩;rw[Bool.eq_iff_iff];simp[readB,rs,aN,gk,h0,h1,h2,h3,az,rK,rgB,sgB,bkB]
 try omega
 try (by_cases hh:ba c 1 < 64<;>simp[hh]<;>omega)
theorem KQ(r:Row)(c:ByteArray)(h0:r.g0=1)(h1:r.g1=9)(h2:r.g2=6)(h3:r.g3=7):aI r c=az 13 (ba c 0) r.z c∧readB r c=rK 13 (az 13 (ba c 0) r.z c):=by
 obtain⟨l1,u1⟩:=ay c 1;obtain⟨l2,u2⟩:=ay c 2;obtain⟨_,_,x1⟩:=aX _ l1 u1;obtain⟨_,_,x2⟩:=aX _ l2 u2;refine⟨by simp[aI,rs,aN,gk,h0,h1,h2,h3,az],?_⟩;rw[Bool.eq_iff_iff];simp[readB,rs,aN,gk,h0,h1,h2,h3,az,rK,rgB,sgB,bkB]
 try omega
 try (by_cases hh:ba c 1 < 64<;>simp[hh]<;>omega)
theorem KP(r:Row)(c:ByteArray)(h0:r.g0=1)(h1:r.g1=6)(h2:r.g2=0)(h3:r.g3=0):aI r c=az 14 (ba c 0) r.z c∧readB r c=rK 14 (az 14 (ba c 0) r.z c):=by
 obtain⟨l1,u1⟩:=ay c 1;obtain⟨l2,u2⟩:=ay c 2;obtain⟨_,_,x1⟩:=aX _ l1 u1;obtain⟨_,_,x2⟩:=aX _ l2 u2;refine⟨by simp[aI,rs,aN,gk,h0,h1,h2,h3,az],?_⟩;rw[Bool.eq_iff_iff];simp[readB,rs,aN,gk,h0,h1,h2,h3,az,rK,rgB,sgB,bkB]
 try omega
 try (by_cases hh:ba c 1 < 64<;>simp[hh]<;>omega)
theorem DL(r:Row)(c:ByteArray)(h0:r.g0=1)(h1:r.g1=5)(h2:r.g2=0)(h3:r.g3=0):aI r c=az 15 (ba c 0) r.z c∧readB r c=rK 15 (az 15 (ba c 0) r.z c):=by
 obtain⟨l1,u1⟩:=ay c 1;obtain⟨l2,u2⟩:=ay c 2;obtain⟨_,_,x1⟩:=aX _ l1 u1;obtain⟨_,_,x2⟩:=aX _ l2 u2;refine⟨by simp[aI,rs,aN,gk,h0,h1,h2,h3,az],?_⟩;rw[Bool.eq_iff_iff];simp[readB,rs,aN,gk,h0,h1,h2,h3,az,rK,rgB,sgB,bkB]
 try omega
 try (by_cases hh:ba c 1 < 64<;>simp[hh]<;>omega)
theorem KO(r:Row)(c:ByteArray)(h0:r.g0=3)(h1:r.g1=8)(h2:r.g2=6)(h3:r.g3=0):aI r c=az 16 (ba c 0) r.z c∧readB r c=rK 16 (az 16 (ba c 0) r.z c):=by
 obtain⟨l1,u1⟩:=ay c 1;obtain⟨l2,u2⟩:=ay c 2;obtain⟨_,_,x1⟩:=aX _ l1 u1;obtain⟨_,_,x2⟩:=aX _ l2 u2;refine⟨by simp[aI,rs,aN,gk,h0,h1,h2,h3,az],?_⟩;rw[Bool.eq_iff_iff];simp[readB,rs,aN,gk,h0,h1,h2,h3,az,rK,rgB,sgB,bkB]
 try omega
 try (by_cases hh:ba c 1 < 64<;>simp[hh]<;>omega)
theorem KN(r:Row)(c:ByteArray)(h0:r.g0=2)(h1:r.g1=6)(h2:r.g2=7)(h3:r.g3=0):aI r c=az 17 (ba c 0) r.z c∧readB r c=rK 17 (az 17 (ba c 0) r.z c):=by
 obtain⟨l1,u1⟩:=ay c 1;obtain⟨l2,u2⟩:=ay c 2;obtain⟨_,_,x1⟩:=aX _ l1 u1;obtain⟨_,_,x2⟩:=aX _ l2 u2;refine⟨by simp[aI,rs,aN,gk,h0,h1,h2,h3,az],?_⟩;rw[Bool.eq_iff_iff];simp[readB,rs,aN,gk,h0,h1,h2,h3,az,rK,rgB,sgB,bkB]
 try omega
 try (by_cases hh:ba c 1 < 64<;>simp[hh]<;>omega)
theorem KL(r:Row)(c:ByteArray)(h0:r.g0=1)(h1:r.g1=4)(h2:r.g2=0)(h3:r.g3=0):aI r c=az 18 (ba c 0) r.z c∧readB r c=rK 18 (az 18 (ba c 0) r.z c):=by
 obtain⟨l1,u1⟩:=ay c 1;obtain⟨l2,u2⟩:=ay c 2;obtain⟨_,_,x1⟩:=aX _ l1 u1;obtain⟨_,_,x2⟩:=aX _ l2 u2;refine⟨by simp[aI,rs,aN,gk,h0,h1,h2,h3,az],?_⟩;rw[Bool.eq_iff_iff];simp[readB,rs,aN,gk,h0,h1,h2,h3,az,rK,rgB,sgB,bkB]
 try omega
 try (by_cases hh:ba c 1 < 64<;>simp[hh]<;>omega)
theorem xR(op:Int)(c:ByteArray)(h:known op=true)(ho:ba c 0=op):aI (row op) c=az (rF op) op (rZ op) c∧readB (row op) c=rK (rF op) (az (rF op) op (rZ op) c):=by
 rcases oH op with⟨h',_⟩|⟨k,hk,_,hr,hf,hz,_,_⟩
 ·rw[h] at h';cases h'
 ·rw[hr,hf,hz,← ho]
  rcases ik hk with rfl|rfl|rfl|rfl|rfl|rfl|rfl|rfl|rfl|rfl|rfl|rfl|rfl|rfl|rfl|rfl|rfl|rfl|rfl|rfl|rfl|rfl
  ·exact MG (R 0) c rfl rfl rfl rfl
  ·exact MF (R 1) c rfl rfl rfl rfl
  ·exact MC (R 2) c rfl rfl rfl rfl
  ·exact MB (R 3) c rfl rfl rfl rfl
  ·exact Me (R 4) c rfl rfl rfl rfl
  ·exact Md (R 5) c rfl rfl rfl rfl
  ·exact LZ (R 6) c rfl rfl rfl rfl
  ·exact LY (R 7) c rfl rfl rfl rfl
  ·exact LX (R 8) c rfl rfl rfl rfl
  ·exact Hl (R 9) c rfl rfl rfl rfl
  ·exact Hg (R 10) c rfl rfl rfl rfl
  ·exact Hl (R 11) c rfl rfl rfl rfl
  ·exact Hg (R 12) c rfl rfl rfl rfl
  ·exact KR (R 13) c rfl rfl rfl rfl
  ·exact KQ (R 14) c rfl rfl rfl rfl
  ·exact KP (R 15) c rfl rfl rfl rfl
  ·exact DL (R 16) c rfl rfl rfl rfl
  ·exact DL (R 17) c rfl rfl rfl rfl
  ·exact KO (R 18) c rfl rfl rfl rfl
  ·exact KN (R 19) c rfl rfl rfl rfl
  ·exact DL (R 20) c rfl rfl rfl rfl
  ·exact KL (R 21) c rfl rfl rfl rfl
theorem rJ(op:Int)(h:known op=false):rF op=0∧rZ op=0:=by
 rcases oH op with⟨_,h2⟩|⟨k,hk,h1,_⟩
 ·exact⟨h2,by unfold rZ;rw[h2];rfl⟩
 ·rw[h] at h1;cases h1
theorem oZ(op:Int)(h:known op=true):¬ rF op=0∧rZ op=(row op).z∧¬ rZ op=0:=by
 rcases oH op with⟨h',_⟩|⟨k,hk,_,hr,hf,hz,_,_⟩
 ·rw[h] at h';cases h'
 ·rw[hr,hf,hz]
  refine⟨?_,rfl,?_⟩<;>(rcases ik hk with rfl | rfl | rfl | rfl | rfl | rfl | rfl | rfl | rfl | rfl | rfl | rfl | rfl | rfl | rfl | rfl | rfl | rfl | rfl | rfl | rfl | rfl<;>decide)
theorem DR(f op z:Int)(c:ByteArray)(f0:0≤f)(f1:f≤18)(h:¬ f=0):(az f op z c).op=op∧(az f op z c).sz=z:=by
 rcases f18 f f0 f1 h with rfl|rfl|rfl|rfl|rfl|rfl|rfl|rfl|rfl|rfl|rfl|rfl|rfl|rfl|rfl|rfl|rfl|rfl<;>exact⟨rfl,rfl⟩
theorem GH(s:ByteArray):(s.size=0→fE s=10)∧(0 < s.size→rZ (ba s 0)=0→fE s=11)∧(0 < s.size→¬ rZ (ba s 0)=0→(s.size:Int) < rZ (ba s 0)→fE s=10)∧
  (0 < s.size→¬ rZ (ba s 0)=0→¬ (s.size:Int) < rZ (ba s 0)→¬ rF (ba s 0)=0∧
   (rV (az (rF (ba s 0)) (ba s 0) (rZ (ba s 0)) s)=true→fE s=0∧fD s=az (rF (ba s 0)) (ba s 0) (rZ (ba s 0)) s)∧(rV (az (rF (ba s 0)) (ba s 0) (rZ (ba s 0)) s)=false→fE s=11)):=by
 have hk:¬ rZ (ba s 0)=0→known (ba s 0)=true:=by
  intro h;cases hk:known (ba s 0) with
  | true=>rfl
  | false=>exact absurd (rJ _ hk).2 h
 refine⟨fun h=>by unfold fE;rw[if_pos h],fun h h1=>?_,fun h h1 h2=>?_,fun h h1 h2=>?_⟩
 ·have hk:known (ba s 0)=false:=by
   cases hk:known (ba s 0) with
   | false=>rfl
   | true=>exact absurd h1 (oZ _ hk).2.2
  unfold fE;rw[if_neg (by omega),if_pos hk]
 ·obtain⟨g1,g2,g3⟩:=oZ _ (hk h1)
  unfold fE;rw[if_neg (by omega),if_neg (by rw[hk h1];decide),if_pos (by omega)]
 ·obtain⟨g1,g2,g3⟩:=oZ _ (hk h1)
  obtain⟨r1,r2⟩:=xR (ba s 0) s (hk h1) rfl;have hv:rV (az (rF (ba s 0)) (ba s 0) (rZ (ba s 0)) s)=readB (row (ba s 0)) s:=by
   unfold rV;obtain⟨b0,b1⟩:=ku (ba s 0);obtain⟨o1,o2⟩:=DR (rF (ba s 0)) (ba s 0) (rZ (ba s 0)) s b0 b1 g1;rw[o1,if_neg g1,o2,if_pos rfl,r2]
  refine⟨g1,fun hV=>?_,fun hV=>?_⟩
  ·rw[hv] at hV
   have:=Jj h (hk h1) (by have:=oD (ba s 0);omega) hV;rw[r1] at this;exact this
  ·rw[hv] at hV
   unfold fE;rw[if_neg (by omega),if_neg (by rw[hk h1];decide),if_neg (by omega),if_neg (by rw[hV];decide)]
theorem JD(op:Int):rZ op=ER.getD (rF op).toNat 0:=rfl
theorem DT(f op z:Int)(c:ByteArray)(f0:0≤f)(f1:f≤18)(h:¬ f=0)(o0:0≤op)(o1:op < 256)(z0:0≤z)(z1:z < 256):(az f op z c).Ok:=by
 obtain⟨l1,u1⟩:=ay c 1;obtain⟨l2,u2⟩:=ay c 2;obtain⟨l3,u3⟩:=ay c 3;obtain⟨l4,u4⟩:=ay c 4;obtain⟨l5,u5⟩:=ay c 5;obtain⟨l6,u6⟩:=ay c 6;obtain⟨x0,x1,_⟩:=aX _ l1 u1;obtain⟨y0,y1,_⟩:=aX _ l2 u2;rcases f18 f f0 f1 h with rfl|rfl|rfl|rfl|rfl|rfl|rfl|rfl|rfl|rfl|rfl|rfl|rfl|rfl|rfl|rfl|rfl|rfl;all_goals
  simp only[az,Int.reduceEq,if_true,if_false];constructor<;>(try simp only)<;>omega
theorem eU(s:ByteArray)(k:Nat)(w:World)(hk:k+1 < s.size)(hs:s.size≤maxLen):Calls Tryz.prog 166 #[.string s,.int .i64 k] w fun e w'=>e= .returned (.int .u16 (ba s k+256*ba s (k+1)))∧∃ n,w'=w.drewN n:=by
 unfold maxLen at hs;obtain⟨x0,x1⟩:=ay s k;obtain⟨y0,y1⟩:=ay s (k+1);have hx:=bG s k (by omega);have hy:=bG s (k+1) (by omega);have hk0:k < s.size:=by omega
 have hw:wrap64 ((k:Int)+1)=(k:Int)+1:=by unfold wrap64;omega
 obtain⟨X,hX⟩:∃ X,ba s k=X:=⟨_,rfl⟩;obtain⟨Y,hY⟩:∃ Y,ba s (k+1)=Y:=⟨_,rfl⟩;rw[hX] at hx x0 x1;rw[hY] at hy y0 y1;rw[hX,hY];clear hX hY;have e1:IntKind.u16.wrap X=X:=by rw[IntKind.wrap_u16];omega
 have e2:IntKind.u16.wrap Y=Y:=by rw[IntKind.wrap_u16];omega
 have e3:IntKind.u16.wrap (256*Y)=256*Y:=by rw[IntKind.wrap_u16];omega
 have e4:IntKind.u16.wrap (X+256*Y)=X+256*Y:=by rw[IntKind.wrap_u16];omega
 go_enter Tryz.func166,Tryz.ntmps166
 go_upto_region 1 with fail
 go_quiet (fail)
 all_goals
  go_wp2_with fail
  go_ret
  exact⟨rfl,_,rfl⟩
structure Fb(B n:Nat)(op z:Int)(w wx:World):Prop where
 hr:wx.heap[B]? =some (.cells #[.int .i64 0,.int .i64 0,.int .i64 0,.int .u16 0,.int .u16 0,.int .i64 0,.int .i64 0] 58 (0,0))
 hi:wx.heap[n]? =some (.cells (gJ ⟨op,0,0,0,0,0,z⟩) 58 (0,0))
 hb:Below B w wx
 hn:B < n
 hlt:n < wx.heap.size
theorem Fb.below{B n:Nat}{op z:Int}{w wx w':World}(h:Fb B n op z w wx)(hb:Below wx.heap.size wx w'):Fb B n op z w w':=
 ⟨(hb.block _ (by have:=h.hn;have:=h.hlt;omega)).trans h.hr,(hb.block _ h.hlt).trans h.hi,h.hb.trans (hb.mono (by have:=h.hn;have:=h.hlt;omega)),h.hn,Nat.lt_of_lt_of_le h.hlt hb.size⟩
theorem bK{B:Nat}{a w:World}(h:Below B a w)(n:Nat):Below B a (w.drewN n):=⟨h.os,h.tape,h.output,h.size,h.block⟩
theorem Kq(w:World)(R Z:Obj):((w.alloc R).drew.alloc Z).heap[w.heap.size+1]? =some Z:=by
 have:=heap_alloc_new (w.alloc R).drew Z;rw[show(w.alloc R).drew.heap.size=w.heap.size+1 by simp] at this;exact this
theorem MI{w w2:World}{op z:Int}(hb2:Below ((w.alloc (.cells (gJ eH) 58)).drew).heap.size (w.alloc (.cells (gJ eH) 58)).drew w2):Fb w.heap.size w2.heap.size op z w (w2.alloc (.cells (gJ ⟨op,0,0,0,0,0,z⟩) 58)):=by
 have h1:w.heap.size+1≤w2.heap.size:=by have:=hb2.size;simp at this;exact this
 have hb0:Below w.heap.size w w2:=(((Below.refl _ _).alloc (Nat.le_refl _) _).drew).trans (hb2.mono (by simp));have hr:w2.heap[w.heap.size]? =some (.cells (gJ eH) 58 (0,0)):=(hb2.block _ (by simp)).trans (heap_alloc_new w (.cells (gJ eH) 58));exact⟨aj _ _ _ hr,heap_alloc_new _ _,hb0.alloc (by omega) _,by omega,by simp⟩
theorem zy{W:World}{n:Nat}(h:W.heap[n]? =some (.cells (gJ eH) 58 (0,0)))(i:Ins):
  (((((((W.setCell ⟨n,0,none⟩ (.int .i64 i.op)).setCell ⟨n,1,none⟩ (.int .i64 i.d)).setCell ⟨n,2,none⟩ (.int .i64 i.s)).setCell ⟨n,3,none⟩ (.int .u16 i.im)).setCell ⟨n,4,none⟩ (.int .u16 i.ax)).setCell ⟨n,5,none⟩ (.int .i64 i.bk)).setCell ⟨n,6,none⟩ (.int .i64 i.sz)).heap[n]? =some (.cells (gJ i) 58 (0,0)):=
 heap_setCell_same _ _ 6 _ _ _ (heap_setCell_same _ _ 5 _ _ _ (heap_setCell_same _ _ 4 _ _ _ (heap_setCell_same _ _ 3 _ _ _ (heap_setCell_same _ _ 2 _ _ _ (heap_setCell_same _ _ 1 _ _ _ (heap_setCell_same _ _ 0 _ _ _ h))))))
theorem vw{W:World}{n m:Nat}(h:m≠n)(a b c d e f g:Value):
  (((((((W.setCell ⟨n,0,none⟩ a).setCell ⟨n,1,none⟩ b).setCell ⟨n,2,none⟩ c).setCell ⟨n,3,none⟩ d).setCell ⟨n,4,none⟩ e).setCell ⟨n,5,none⟩ f).setCell ⟨n,6,none⟩ g).heap[m]? =W.heap[m]? :=by
 rw[Below.heap_setCell _ _ _ _ h,Below.heap_setCell _ _ _ _ h,Below.heap_setCell _ _ _ _ h,Below.heap_setCell _ _ _ _ h,Below.heap_setCell _ _ _ _ h,Below.heap_setCell _ _ _ _ h,Below.heap_setCell _ _ _ _ h]
theorem MH{w w2:World}{op z:Int}(hb2:Below ((w.alloc (.cells (gJ eH) 58)).drew.alloc (.cells (gJ eH) 58)).heap.size ((w.alloc (.cells (gJ eH) 58)).drew.alloc (.cells (gJ eH) 58)) w2):
  Fb w.heap.size (w.heap.size+1) op z w (((((((w2.setCell ⟨w.heap.size+1,0,none⟩ (.int .i64 op)).setCell ⟨w.heap.size+1,1,none⟩ (.int .i64 0)).setCell ⟨w.heap.size+1,2,none⟩ (.int .i64 0)).setCell ⟨w.heap.size+1,3,none⟩ (.int .u16 0)).setCell ⟨w.heap.size+1,4,none⟩ (.int .u16 0)).setCell ⟨w.heap.size+1,5,none⟩ (.int .i64 0)).setCell ⟨w.heap.size+1,6,none⟩ (.int .i64 z)):=by
 have h1:w.heap.size+1+1≤w2.heap.size:=by have:=hb2.size;simp at this;exact this
 have hb0:Below w.heap.size w w2:=((((Below.refl _ _).alloc (Nat.le_refl _) _).drew).alloc (by simp) _).trans (hb2.mono (by simp;omega));have hz:w2.heap[w.heap.size+1]? =some (.cells (gJ eH) 58 (0,0)):=(hb2.block _ (by simp)).trans (Kq w _ _);have hr:w2.heap[w.heap.size]? =some (.cells (gJ eH) 58 (0,0)):=(hb2.block _ (by simp;omega)).trans (aj _ _ _ (heap_alloc_new w (.cells (gJ eH) 58)));refine⟨(vw (by omega) _ _ _ _ _ _ _).trans hr,zy hz ⟨op,0,0,0,0,0,z⟩,?_,by omega,by simp[World.setCell];omega⟩;exact((((((hb0.setCell (by simp) _).setCell (by simp) _).setCell (by simp) _).setCell (by simp) _).setCell (by simp) _).setCell (by simp) _).setCell (by simp) _
set_option maxHeartbeats 8000000 in
theorem xU(s:ByteArray)(w:World)(hs:s.size≤maxLen)(h0:0 < s.size)(hf0:¬ rF (ba s 0)=0)(hz:rZ (ba s 0)≤s.size):
  Calls Tryz.prog 157 #[.string s] w fun e w'=>e= .returned (dN (az (rF (ba s 0)) (ba s 0) (rZ (ba s 0)) s))∧Below w.heap.size w w':=by
 obtain⟨p0,p1⟩:=ay s 0;have hx:=bG s 0 h0;have hw:IntKind.i64.wrap (ba s 0)=ba s 0:=IntWalk.i64_in _ (by omega);obtain⟨f0,f1⟩:=ku (ba s 0);have hzs:=JD (ba s 0);have HS:=Nc (fun w=>jk (ba s 0) w p0 p1);have HFm:=Nc (fun w=>gK (ba s 0) w (by omega) (by omega));obtain⟨op,hop⟩:∃ op,ba s 0=op:=⟨_,rfl⟩;rw[hop] at hx hw hf0 hz p0 p1 f0 f1 hzs HS HFm;rw[hop];obtain⟨z,hzz⟩:∃ z,rZ op=z:=⟨_,rfl⟩;obtain⟨F,hF⟩:∃ F,rF op=F:=⟨_,rfl⟩;rw[hF] at hf0 f0 f1 hzs HFm;rw[hzz] at hz hzs HS;rw[hF,hzz];have HM:=Nc hs;have hcases:=Nc (f18 F f0 f1 hf0);have HZ:=Nc hzs;have HX:=Nc hx;have HR0:=Nc (heap_alloc_new w (.cells #[.int .i64 0,.int .i64 0,.int .i64 0,.int .u16 0,.int .u16 0,.int .i64 0,.int .i64 0] 58));have HB0:=Nc ((Below.refl w.heap.size w).alloc (Nat.le_refl _) (.cells #[.int .i64 0,.int .i64 0,.int .i64 0,.int .u16 0,.int .u16 0,.int .i64 0,.int .i64 0] 58));clear hop hzz hF f0 f1 hzs hs;go_enter Tryz.func157,Tryz.ntmps157
 go_upto_region 1 with fail
 go_cut [3] (fun v wx=>∃ n,v= .pointer (some ⟨n,0,none⟩)∧Hid (Fb w.heap.size n op z w wx))
 case first=>
  go_region_held3 (fun _=>True) (trivial) ((go_at_call 45;(with_reducible refine(HS.out _).mono ?_);rintro e w2 ⟨rfl,hb2⟩;(try (have hzz:w2.heap[w.heap.size+1]? =some (.cells (gJ eH) 58 (0,0)):=(hb2.block (w.heap.size+1) (by simp)).trans (Kq w _ _);have hfz:=fun j=>dm (j:=j) hzz;obtain⟨g0,g1,g2,g3,g4,g5,g6⟩:=dH hzz;simp only[eH] at g0 g1 g2 g3 g4 g5 g6;have HZZ:=Nc hzz;clear hzz))))
  all_goals
   go_wp2_with fail
   go_meet
   exact⟨_,rfl,Nc (by first | exact MI hb2 | exact MH hb2)⟩
 case rest=>
  obtain⟨n,rfl,HFb⟩:=hcut;clear hx hw;obtain⟨e0,e1,e2,e3,e4,e5,e6⟩:=dH HFb.out.hi;simp only at e0 e1 e2 e3 e4 e5 e6;go_wp2_with fail
  refine(HFm.out _).mono ?_;rintro e w3 ⟨rfl,hb⟩;have HF3:=HFb.out.below hb;clear hb e0 e1 e2 e3 e4 e5 e6;obtain⟨e0,e1,e2,e3,e4,e5,e6⟩:=dH HF3.hi;obtain⟨r0,r1,r2,r3,r4,r5,r6⟩:=dH (i:=eH) HF3.hr;have fzn:=fun j=>dm (j:=j) HF3.hi
  have fzr:=fun j=>dm (j:=j) HF3.hr
  simp only[eH] at e0 e1 e2 e3 e4 e5 e6 r0 r1 r2 r3 r4 r5 r6;have hne1:n≠w.heap.size:=by have:=HF3.hn;omega
  have hne2:w.heap.size≠n:=by have:=HF3.hn;omega
  have hgn:w.heap.size≤n:=by have:=HF3.hn;omega
  have HB:=Nc HF3.hb;clear HF3 HFb;rcases hcases.out with rfl|rfl|rfl|rfl|rfl|rfl|rfl|rfl|rfl|rfl|rfl|rfl|rfl|rfl|rfl|rfl|rfl|rfl
  ·have hzn:z=1:=HZ.out.trans (by decide)
   have hsz:1≤s.size:=by omega
   clear hzn;have HK:=Nc (show az 1 op z s=⟨op,0,0,0,0,0,z⟩ by rfl);go_wp2_with fail
   refine bodyPost_ret (v:= .agg #[.int .i64 op,.int .i64 (0),.int .i64 (0),.int .u16 (0),.int .u16 (0),.int .i64 (0),.int .i64 z]) (by simp[results,Tryz.results157,go_sem,r0,r1,r2,r3,r4,r5,r6,fzr,fzn,hne1,hne2]) rfl ⟨by rw[HK.out];rfl,?_⟩;repeat (first | with_reducible exact HB.out | refine Below.setCell ?_ (by first | with_reducible exact hgn | with_reducible exact Nat.le_refl _) _ | refine bK ?_ _)
  ·have hzn:z=2:=HZ.out.trans (by decide)
   have hsz:2≤s.size:=by omega
   clear hzn;obtain⟨l1,u1⟩:=ay s 1;have hi1:=bG s 1 (by omega);have hk1:1 < s.size:=by omega
   obtain⟨b1,hb1⟩:∃ b,ba s 1=b:=⟨_,rfl⟩;rw[hb1] at l1 u1 hi1;have HK:=Nc (show az 2 op z s=⟨op,b1,0,0,0,0,z⟩ by rw[← hb1];rfl);clear hb1;have ci1:IntKind.i64.wrap b1=b1:=IntWalk.i64_in _ (by omega);have cu1:IntKind.u16.wrap b1=b1:=by rw[IntKind.wrap_u16];omega
   go_wp2_with fail
   refine bodyPost_ret (v:= .agg #[.int .i64 op,.int .i64 (b1),.int .i64 (0),.int .u16 (0),.int .u16 (0),.int .i64 (0),.int .i64 z]) (by simp[results,Tryz.results157,go_sem,r0,r1,r2,r3,r4,r5,r6,fzr,fzn,hne1,hne2]) rfl ⟨by rw[HK.out];rfl,?_⟩;repeat (first | with_reducible exact HB.out | refine Below.setCell ?_ (by first | with_reducible exact hgn | with_reducible exact Nat.le_refl _) _ | refine bK ?_ _)
  ·have hzn:z=2:=HZ.out.trans (by decide)
   have hsz:2≤s.size:=by omega
   clear hzn;obtain⟨l1,u1⟩:=ay s 1;have hi1:=bG s 1 (by omega);have hk1:1 < s.size:=by omega
   obtain⟨b1,hb1⟩:∃ b,ba s 1=b:=⟨_,rfl⟩;rw[hb1] at l1 u1 hi1;have HK:=Nc (show az 3 op z s=⟨op,0,0,b1,0,0,z⟩ by rw[← hb1];rfl);clear hb1;have ci1:IntKind.i64.wrap b1=b1:=IntWalk.i64_in _ (by omega);have cu1:IntKind.u16.wrap b1=b1:=by rw[IntKind.wrap_u16];omega
   go_wp2_with fail
   refine bodyPost_ret (v:= .agg #[.int .i64 op,.int .i64 (0),.int .i64 (0),.int .u16 (b1),.int .u16 (0),.int .i64 (0),.int .i64 z]) (by simp[results,Tryz.results157,go_sem,r0,r1,r2,r3,r4,r5,r6,fzr,fzn,hne1,hne2]) rfl ⟨by rw[HK.out];rfl,?_⟩;repeat (first | with_reducible exact HB.out | refine Below.setCell ?_ (by first | with_reducible exact hgn | with_reducible exact Nat.le_refl _) _ | refine bK ?_ _)
  ·have hzn:z=2:=HZ.out.trans (by decide)
   have hsz:2≤s.size:=by omega
   clear hzn;obtain⟨l1,u1⟩:=ay s 1;have hi1:=bG s 1 (by omega);have hk1:1 < s.size:=by omega
   obtain⟨b1,hb1⟩:∃ b,ba s 1=b:=⟨_,rfl⟩;rw[hb1] at l1 u1 hi1;have HK:=Nc (show az 4 op z s=⟨op,b1/16,b1%16,0,0,0,z⟩ by rw[← hb1];rfl);clear hb1;have ci1:IntKind.i64.wrap b1=b1:=IntWalk.i64_in _ (by omega);have cu1:IntKind.u16.wrap b1=b1:=by rw[IntKind.wrap_u16];omega
   have hq1:b1.tdiv 16=b1/16:=Int.tdiv_eq_ediv_of_nonneg l1;have hq2:b1.tmod 16=b1%16:=Int.tmod_eq_emod_of_nonneg l1;have hq3:IntKind.u8.wrap (b1/16)=b1/16:=by rw[IntKind.wrap_u8'];omega
   have hq4:IntKind.u8.wrap (b1%16)=b1%16:=by rw[IntKind.wrap_u8'];omega
   have hq5:IntKind.i64.wrap (b1/16)=b1/16:=IntWalk.i64_in _ (by omega);have hq6:IntKind.i64.wrap (b1%16)=b1%16:=IntWalk.i64_in _ (by omega);go_wp2_with fail
   refine bodyPost_ret (v:= .agg #[.int .i64 op,.int .i64 (b1/16),.int .i64 (b1%16),.int .u16 (0),.int .u16 (0),.int .i64 (0),.int .i64 z]) (by simp[results,Tryz.results157,go_sem,r0,r1,r2,r3,r4,r5,r6,fzr,fzn,hne1,hne2]) rfl ⟨by rw[HK.out];rfl,?_⟩;repeat (first | with_reducible exact HB.out | refine Below.setCell ?_ (by first | with_reducible exact hgn | with_reducible exact Nat.le_refl _) _ | refine bK ?_ _)
  ·have hzn:z=3:=HZ.out.trans (by decide)
   have hsz:3≤s.size:=by omega
   clear hzn;obtain⟨l1,u1⟩:=ay s 1;have hi1:=bG s 1 (by omega);have hk1:1 < s.size:=by omega
   obtain⟨l2,u2⟩:=ay s 2;have hi2:=bG s 2 (by omega);have hk2:2 < s.size:=by omega
   obtain⟨b1,hb1⟩:∃ b,ba s 1=b:=⟨_,rfl⟩;rw[hb1] at l1 u1 hi1;obtain⟨b2,hb2⟩:∃ b,ba s 2=b:=⟨_,rfl⟩;rw[hb2] at l2 u2 hi2;have HX2:=Nc (fun w=>iU b2 w l2 u2);have HK:=Nc (show az 5 op z s=⟨op,b1,0,dW (b2),0,0,z⟩ by rw[← hb1,← hb2];rfl);clear hb1 hb2;have ci1:IntKind.i64.wrap b1=b1:=IntWalk.i64_in _ (by omega);have cu1:IntKind.u16.wrap b1=b1:=by rw[IntKind.wrap_u16];omega
   have ci2:IntKind.i64.wrap b2=b2:=IntWalk.i64_in _ (by omega);have cu2:IntKind.u16.wrap b2=b2:=by rw[IntKind.wrap_u16];omega
   go_wp2_with (first | (go_at_call 46;with_reducible refine(HX2.out _).mono ?_;rintro e w' ⟨rfl,rfl⟩))
   refine bodyPost_ret (v:= .agg #[.int .i64 op,.int .i64 (b1),.int .i64 (0),.int .u16 (dW (b2)),.int .u16 (0),.int .i64 (0),.int .i64 z]) (by simp[results,Tryz.results157,go_sem,r0,r1,r2,r3,r4,r5,r6,fzr,fzn,hne1,hne2]) rfl ⟨by rw[HK.out];rfl,?_⟩;repeat (first | with_reducible exact HB.out | refine Below.setCell ?_ (by first | with_reducible exact hgn | with_reducible exact Nat.le_refl _) _ | refine bK ?_ _)
  ·have hzn:z=4:=HZ.out.trans (by decide)
   have hsz:4≤s.size:=by omega
   clear hzn;obtain⟨l1,u1⟩:=ay s 1;have hi1:=bG s 1 (by omega);have hk1:1 < s.size:=by omega
   obtain⟨l2,u2⟩:=ay s 2;have hi2:=bG s 2 (by omega);have hk2:2 < s.size:=by omega
   obtain⟨l3,u3⟩:=ay s 3;have hi3:=bG s 3 (by omega);have hk3:3 < s.size:=by omega
   have hw2:=fun w=>eU s 2 w (by omega) HM.out
   obtain⟨b1,hb1⟩:∃ b,ba s 1=b:=⟨_,rfl⟩;rw[hb1] at l1 u1 hi1;obtain⟨b2,hb2⟩:∃ b,ba s 2=b:=⟨_,rfl⟩;rw[hb2] at l2 u2 hi2;obtain⟨b3,hb3⟩:∃ b,ba s 3=b:=⟨_,rfl⟩;rw[hb3] at l3 u3 hi3;have HW2:=Nc (show ∀ w,Calls Tryz.prog 166 #[.string s,.int .i64 2] w fun e w'=>e= .returned (.int .u16 (b2+256*b3))∧∃ n,w'=w.drewN n from fun w=>by have:=hw2 w;rw[hb2,hb3] at this;exact this);have HK:=Nc (show az 6 op z s=⟨op,b1,0,(b2+256*b3),0,0,z⟩ by rw[← hb1,← hb2,← hb3];rfl);clear hw2 hb1 hb2 hb3;have ci1:IntKind.i64.wrap b1=b1:=IntWalk.i64_in _ (by omega);have cu1:IntKind.u16.wrap b1=b1:=by rw[IntKind.wrap_u16];omega
   have ci2:IntKind.i64.wrap b2=b2:=IntWalk.i64_in _ (by omega);have cu2:IntKind.u16.wrap b2=b2:=by rw[IntKind.wrap_u16];omega
   have ci3:IntKind.i64.wrap b3=b3:=IntWalk.i64_in _ (by omega);have cu3:IntKind.u16.wrap b3=b3:=by rw[IntKind.wrap_u16];omega
   go_wp2_with (first | (go_at_call 166;with_reducible refine(HW2.out _).mono ?_;rintro e w' ⟨rfl,nn2,rfl⟩))
   refine bodyPost_ret (v:= .agg #[.int .i64 op,.int .i64 (b1),.int .i64 (0),.int .u16 ((b2+256*b3)),.int .u16 (0),.int .i64 (0),.int .i64 z]) (by simp[results,Tryz.results157,go_sem,r0,r1,r2,r3,r4,r5,r6,fzr,fzn,hne1,hne2]) rfl ⟨by rw[HK.out];rfl,?_⟩;repeat (first | with_reducible exact HB.out | refine Below.setCell ?_ (by first | with_reducible exact hgn | with_reducible exact Nat.le_refl _) _ | refine bK ?_ _)
  ·have hzn:z=3:=HZ.out.trans (by decide)
   have hsz:3≤s.size:=by omega
   clear hzn;obtain⟨l1,u1⟩:=ay s 1;have hi1:=bG s 1 (by omega);have hk1:1 < s.size:=by omega
   obtain⟨l2,u2⟩:=ay s 2;have hi2:=bG s 2 (by omega);have hk2:2 < s.size:=by omega
   obtain⟨b1,hb1⟩:∃ b,ba s 1=b:=⟨_,rfl⟩;rw[hb1] at l1 u1 hi1;obtain⟨b2,hb2⟩:∃ b,ba s 2=b:=⟨_,rfl⟩;rw[hb2] at l2 u2 hi2;have HX2:=Nc (fun w=>iU b2 w l2 u2);have HK:=Nc (show az 7 op z s=⟨op,b1/16,b1%16,dW (b2),0,0,z⟩ by rw[← hb1,← hb2];rfl);clear hb1 hb2;have ci1:IntKind.i64.wrap b1=b1:=IntWalk.i64_in _ (by omega);have cu1:IntKind.u16.wrap b1=b1:=by rw[IntKind.wrap_u16];omega
   have ci2:IntKind.i64.wrap b2=b2:=IntWalk.i64_in _ (by omega);have cu2:IntKind.u16.wrap b2=b2:=by rw[IntKind.wrap_u16];omega
   have hq1:b1.tdiv 16=b1/16:=Int.tdiv_eq_ediv_of_nonneg l1;have hq2:b1.tmod 16=b1%16:=Int.tmod_eq_emod_of_nonneg l1;have hq3:IntKind.u8.wrap (b1/16)=b1/16:=by rw[IntKind.wrap_u8'];omega
   have hq4:IntKind.u8.wrap (b1%16)=b1%16:=by rw[IntKind.wrap_u8'];omega
   have hq5:IntKind.i64.wrap (b1/16)=b1/16:=IntWalk.i64_in _ (by omega);have hq6:IntKind.i64.wrap (b1%16)=b1%16:=IntWalk.i64_in _ (by omega);go_wp2_with (first | (go_at_call 46;with_reducible refine(HX2.out _).mono ?_;rintro e w' ⟨rfl,rfl⟩))
   refine bodyPost_ret (v:= .agg #[.int .i64 op,.int .i64 (b1/16),.int .i64 (b1%16),.int .u16 (dW (b2)),.int .u16 (0),.int .i64 (0),.int .i64 z]) (by simp[results,Tryz.results157,go_sem,r0,r1,r2,r3,r4,r5,r6,fzr,fzn,hne1,hne2]) rfl ⟨by rw[HK.out];rfl,?_⟩;repeat (first | with_reducible exact HB.out | refine Below.setCell ?_ (by first | with_reducible exact hgn | with_reducible exact Nat.le_refl _) _ | refine bK ?_ _)
  ·have hzn:z=4:=HZ.out.trans (by decide)
   have hsz:4≤s.size:=by omega
   clear hzn;obtain⟨l1,u1⟩:=ay s 1;have hi1:=bG s 1 (by omega);have hk1:1 < s.size:=by omega
   obtain⟨l2,u2⟩:=ay s 2;have hi2:=bG s 2 (by omega);have hk2:2 < s.size:=by omega
   obtain⟨l3,u3⟩:=ay s 3;have hi3:=bG s 3 (by omega);have hk3:3 < s.size:=by omega
   have hw2:=fun w=>eU s 2 w (by omega) HM.out
   obtain⟨b1,hb1⟩:∃ b,ba s 1=b:=⟨_,rfl⟩;rw[hb1] at l1 u1 hi1;obtain⟨b2,hb2⟩:∃ b,ba s 2=b:=⟨_,rfl⟩;rw[hb2] at l2 u2 hi2;obtain⟨b3,hb3⟩:∃ b,ba s 3=b:=⟨_,rfl⟩;rw[hb3] at l3 u3 hi3;have HW2:=Nc (show ∀ w,Calls Tryz.prog 166 #[.string s,.int .i64 2] w fun e w'=>e= .returned (.int .u16 (b2+256*b3))∧∃ n,w'=w.drewN n from fun w=>by have:=hw2 w;rw[hb2,hb3] at this;exact this);have HK:=Nc (show az 8 op z s=⟨op,b1/16,b1%16,(b2+256*b3),0,0,z⟩ by rw[← hb1,← hb2,← hb3];rfl);clear hw2 hb1 hb2 hb3;have ci1:IntKind.i64.wrap b1=b1:=IntWalk.i64_in _ (by omega);have cu1:IntKind.u16.wrap b1=b1:=by rw[IntKind.wrap_u16];omega
   have ci2:IntKind.i64.wrap b2=b2:=IntWalk.i64_in _ (by omega);have cu2:IntKind.u16.wrap b2=b2:=by rw[IntKind.wrap_u16];omega
   have ci3:IntKind.i64.wrap b3=b3:=IntWalk.i64_in _ (by omega);have cu3:IntKind.u16.wrap b3=b3:=by rw[IntKind.wrap_u16];omega
   have hq1:b1.tdiv 16=b1/16:=Int.tdiv_eq_ediv_of_nonneg l1;have hq2:b1.tmod 16=b1%16:=Int.tmod_eq_emod_of_nonneg l1;have hq3:IntKind.u8.wrap (b1/16)=b1/16:=by rw[IntKind.wrap_u8'];omega
   have hq4:IntKind.u8.wrap (b1%16)=b1%16:=by rw[IntKind.wrap_u8'];omega
   have hq5:IntKind.i64.wrap (b1/16)=b1/16:=IntWalk.i64_in _ (by omega);have hq6:IntKind.i64.wrap (b1%16)=b1%16:=IntWalk.i64_in _ (by omega);go_wp2_with (first | (go_at_call 166;with_reducible refine(HW2.out _).mono ?_;rintro e w' ⟨rfl,nn2,rfl⟩))
   refine bodyPost_ret (v:= .agg #[.int .i64 op,.int .i64 (b1/16),.int .i64 (b1%16),.int .u16 ((b2+256*b3)),.int .u16 (0),.int .i64 (0),.int .i64 z]) (by simp[results,Tryz.results157,go_sem,r0,r1,r2,r3,r4,r5,r6,fzr,fzn,hne1,hne2]) rfl ⟨by rw[HK.out];rfl,?_⟩;repeat (first | with_reducible exact HB.out | refine Below.setCell ?_ (by first | with_reducible exact hgn | with_reducible exact Nat.le_refl _) _ | refine bK ?_ _)
  ·have hzn:z=4:=HZ.out.trans (by decide)
   have hsz:4≤s.size:=by omega
   clear hzn;obtain⟨l1,u1⟩:=ay s 1;have hi1:=bG s 1 (by omega);have hk1:1 < s.size:=by omega
   obtain⟨l2,u2⟩:=ay s 2;have hi2:=bG s 2 (by omega);have hk2:2 < s.size:=by omega
   obtain⟨l3,u3⟩:=ay s 3;have hi3:=bG s 3 (by omega);have hk3:3 < s.size:=by omega
   have hw2:=fun w=>eU s 2 w (by omega) HM.out
   obtain⟨b1,hb1⟩:∃ b,ba s 1=b:=⟨_,rfl⟩;rw[hb1] at l1 u1 hi1;obtain⟨b2,hb2⟩:∃ b,ba s 2=b:=⟨_,rfl⟩;rw[hb2] at l2 u2 hi2;obtain⟨b3,hb3⟩:∃ b,ba s 3=b:=⟨_,rfl⟩;rw[hb3] at l3 u3 hi3;have HW2:=Nc (show ∀ w,Calls Tryz.prog 166 #[.string s,.int .i64 2] w fun e w'=>e= .returned (.int .u16 (b2+256*b3))∧∃ n,w'=w.drewN n from fun w=>by have:=hw2 w;rw[hb2,hb3] at this;exact this);have HK:=Nc (show az 9 op z s=⟨op,b1,0,(b2+256*b3),0,0,z⟩ by rw[← hb1,← hb2,← hb3];rfl);clear hw2 hb1 hb2 hb3;have ci1:IntKind.i64.wrap b1=b1:=IntWalk.i64_in _ (by omega);have cu1:IntKind.u16.wrap b1=b1:=by rw[IntKind.wrap_u16];omega
   have ci2:IntKind.i64.wrap b2=b2:=IntWalk.i64_in _ (by omega);have cu2:IntKind.u16.wrap b2=b2:=by rw[IntKind.wrap_u16];omega
   have ci3:IntKind.i64.wrap b3=b3:=IntWalk.i64_in _ (by omega);have cu3:IntKind.u16.wrap b3=b3:=by rw[IntKind.wrap_u16];omega
   go_wp2_with (first | (go_at_call 166;with_reducible refine(HW2.out _).mono ?_;rintro e w' ⟨rfl,nn2,rfl⟩))
   refine bodyPost_ret (v:= .agg #[.int .i64 op,.int .i64 (b1),.int .i64 (0),.int .u16 ((b2+256*b3)),.int .u16 (0),.int .i64 (0),.int .i64 z]) (by simp[results,Tryz.results157,go_sem,r0,r1,r2,r3,r4,r5,r6,fzr,fzn,hne1,hne2]) rfl ⟨by rw[HK.out];rfl,?_⟩;repeat (first | with_reducible exact HB.out | refine Below.setCell ?_ (by first | with_reducible exact hgn | with_reducible exact Nat.le_refl _) _ | refine bK ?_ _)
  ·have hzn:z=2:=HZ.out.trans (by decide)
   have hsz:2≤s.size:=by omega
   clear hzn;obtain⟨l1,u1⟩:=ay s 1;have hi1:=bG s 1 (by omega);have hk1:1 < s.size:=by omega
   obtain⟨b1,hb1⟩:∃ b,ba s 1=b:=⟨_,rfl⟩;rw[hb1] at l1 u1 hi1;have HX1:=Nc (fun w=>iU b1 w l1 u1);have HK:=Nc (show az 10 op z s=⟨op,0,0,dW (b1),0,0,z⟩ by rw[← hb1];rfl);clear hb1;have ci1:IntKind.i64.wrap b1=b1:=IntWalk.i64_in _ (by omega);have cu1:IntKind.u16.wrap b1=b1:=by rw[IntKind.wrap_u16];omega
   go_wp2_with (first | (go_at_call 46;with_reducible refine(HX1.out _).mono ?_;rintro e w' ⟨rfl,rfl⟩))
   refine bodyPost_ret (v:= .agg #[.int .i64 op,.int .i64 (0),.int .i64 (0),.int .u16 (dW (b1)),.int .u16 (0),.int .i64 (0),.int .i64 z]) (by simp[results,Tryz.results157,go_sem,r0,r1,r2,r3,r4,r5,r6,fzr,fzn,hne1,hne2]) rfl ⟨by rw[HK.out];rfl,?_⟩;repeat (first | with_reducible exact HB.out | refine Below.setCell ?_ (by first | with_reducible exact hgn | with_reducible exact Nat.le_refl _) _ | refine bK ?_ _)
  ·have hzn:z=3:=HZ.out.trans (by decide)
   have hsz:3≤s.size:=by omega
   clear hzn;obtain⟨l1,u1⟩:=ay s 1;have hi1:=bG s 1 (by omega);have hk1:1 < s.size:=by omega
   obtain⟨l2,u2⟩:=ay s 2;have hi2:=bG s 2 (by omega);have hk2:2 < s.size:=by omega
   have hw1:=fun w=>eU s 1 w (by omega) HM.out
   obtain⟨b1,hb1⟩:∃ b,ba s 1=b:=⟨_,rfl⟩;rw[hb1] at l1 u1 hi1;obtain⟨b2,hb2⟩:∃ b,ba s 2=b:=⟨_,rfl⟩;rw[hb2] at l2 u2 hi2;have HW1:=Nc (show ∀ w,Calls Tryz.prog 166 #[.string s,.int .i64 1] w fun e w'=>e= .returned (.int .u16 (b1+256*b2))∧∃ n,w'=w.drewN n from fun w=>by have:=hw1 w;rw[hb1,hb2] at this;exact this);have HK:=Nc (show az 11 op z s=⟨op,0,0,(b1+256*b2),0,0,z⟩ by rw[← hb1,← hb2];rfl);clear hw1 hb1 hb2;have ci1:IntKind.i64.wrap b1=b1:=IntWalk.i64_in _ (by omega);have cu1:IntKind.u16.wrap b1=b1:=by rw[IntKind.wrap_u16];omega
   have ci2:IntKind.i64.wrap b2=b2:=IntWalk.i64_in _ (by omega);have cu2:IntKind.u16.wrap b2=b2:=by rw[IntKind.wrap_u16];omega
   go_wp2_with (first | (go_at_call 166;with_reducible refine(HW1.out _).mono ?_;rintro e w' ⟨rfl,nn1,rfl⟩))
   refine bodyPost_ret (v:= .agg #[.int .i64 op,.int .i64 (0),.int .i64 (0),.int .u16 ((b1+256*b2)),.int .u16 (0),.int .i64 (0),.int .i64 z]) (by simp[results,Tryz.results157,go_sem,r0,r1,r2,r3,r4,r5,r6,fzr,fzn,hne1,hne2]) rfl ⟨by rw[HK.out];rfl,?_⟩;repeat (first | with_reducible exact HB.out | refine Below.setCell ?_ (by first | with_reducible exact hgn | with_reducible exact Nat.le_refl _) _ | refine bK ?_ _)
  ·have hzn:z=4:=HZ.out.trans (by decide)
   have hsz:4≤s.size:=by omega
   clear hzn;obtain⟨l1,u1⟩:=ay s 1;have hi1:=bG s 1 (by omega);have hk1:1 < s.size:=by omega
   obtain⟨l2,u2⟩:=ay s 2;have hi2:=bG s 2 (by omega);have hk2:2 < s.size:=by omega
   obtain⟨l3,u3⟩:=ay s 3;have hi3:=bG s 3 (by omega);have hk3:3 < s.size:=by omega
   have hw2:=fun w=>eU s 2 w (by omega) HM.out
   obtain⟨b1,hb1⟩:∃ b,ba s 1=b:=⟨_,rfl⟩;rw[hb1] at l1 u1 hi1;obtain⟨b2,hb2⟩:∃ b,ba s 2=b:=⟨_,rfl⟩;rw[hb2] at l2 u2 hi2;obtain⟨b3,hb3⟩:∃ b,ba s 3=b:=⟨_,rfl⟩;rw[hb3] at l3 u3 hi3;have HW2:=Nc (show ∀ w,Calls Tryz.prog 166 #[.string s,.int .i64 2] w fun e w'=>e= .returned (.int .u16 (b2+256*b3))∧∃ n,w'=w.drewN n from fun w=>by have:=hw2 w;rw[hb2,hb3] at this;exact this);have HK:=Nc (show az 12 op z s=⟨op,0,0,(b2+256*b3),0,b1,z⟩ by rw[← hb1,← hb2,← hb3];rfl);clear hw2 hb1 hb2 hb3;have ci1:IntKind.i64.wrap b1=b1:=IntWalk.i64_in _ (by omega);have cu1:IntKind.u16.wrap b1=b1:=by rw[IntKind.wrap_u16];omega
   have ci2:IntKind.i64.wrap b2=b2:=IntWalk.i64_in _ (by omega);have cu2:IntKind.u16.wrap b2=b2:=by rw[IntKind.wrap_u16];omega
   have ci3:IntKind.i64.wrap b3=b3:=IntWalk.i64_in _ (by omega);have cu3:IntKind.u16.wrap b3=b3:=by rw[IntKind.wrap_u16];omega
   go_wp2_with (first | (go_at_call 166;with_reducible refine(HW2.out _).mono ?_;rintro e w' ⟨rfl,nn2,rfl⟩))
   refine bodyPost_ret (v:= .agg #[.int .i64 op,.int .i64 (0),.int .i64 (0),.int .u16 ((b2+256*b3)),.int .u16 (0),.int .i64 (b1),.int .i64 z]) (by simp[results,Tryz.results157,go_sem,r0,r1,r2,r3,r4,r5,r6,fzr,fzn,hne1,hne2]) rfl ⟨by rw[HK.out];rfl,?_⟩;repeat (first | with_reducible exact HB.out | refine Below.setCell ?_ (by first | with_reducible exact hgn | with_reducible exact Nat.le_refl _) _ | refine bK ?_ _)
  ·have hzn:z=7:=HZ.out.trans (by decide)
   have hsz:7≤s.size:=by omega
   clear hzn;obtain⟨l1,u1⟩:=ay s 1;have hi1:=bG s 1 (by omega);have hk1:1 < s.size:=by omega
   obtain⟨l2,u2⟩:=ay s 2;have hi2:=bG s 2 (by omega);have hk2:2 < s.size:=by omega
   obtain⟨l3,u3⟩:=ay s 3;have hi3:=bG s 3 (by omega);have hk3:3 < s.size:=by omega
   obtain⟨l4,u4⟩:=ay s 4;have hi4:=bG s 4 (by omega);have hk4:4 < s.size:=by omega
   obtain⟨l5,u5⟩:=ay s 5;have hi5:=bG s 5 (by omega);have hk5:5 < s.size:=by omega
   obtain⟨l6,u6⟩:=ay s 6;have hi6:=bG s 6 (by omega);have hk6:6 < s.size:=by omega
   have hw3:=fun w=>eU s 3 w (by omega) HM.out
   have hw5:=fun w=>eU s 5 w (by omega) HM.out
   obtain⟨b1,hb1⟩:∃ b,ba s 1=b:=⟨_,rfl⟩;rw[hb1] at l1 u1 hi1;obtain⟨b2,hb2⟩:∃ b,ba s 2=b:=⟨_,rfl⟩;rw[hb2] at l2 u2 hi2;obtain⟨b3,hb3⟩:∃ b,ba s 3=b:=⟨_,rfl⟩;rw[hb3] at l3 u3 hi3;obtain⟨b4,hb4⟩:∃ b,ba s 4=b:=⟨_,rfl⟩;rw[hb4] at l4 u4 hi4;obtain⟨b5,hb5⟩:∃ b,ba s 5=b:=⟨_,rfl⟩;rw[hb5] at l5 u5 hi5;obtain⟨b6,hb6⟩:∃ b,ba s 6=b:=⟨_,rfl⟩;rw[hb6] at l6 u6 hi6;have HW3:=Nc (show ∀ w,Calls Tryz.prog 166 #[.string s,.int .i64 3] w fun e w'=>e= .returned (.int .u16 (b3+256*b4))∧∃ n,w'=w.drewN n from fun w=>by have:=hw3 w;rw[hb3,hb4] at this;exact this);have HW5:=Nc (show ∀ w,Calls Tryz.prog 166 #[.string s,.int .i64 5] w fun e w'=>e= .returned (.int .u16 (b5+256*b6))∧∃ n,w'=w.drewN n from fun w=>by have:=hw5 w;rw[hb5,hb6] at this;exact this);have HK:=Nc (show az 13 op z s=⟨op,b1,0,(b3+256*b4),(b5+256*b6),b2,z⟩ by rw[← hb1,← hb2,← hb3,← hb4,← hb5,← hb6];rfl);clear hw3 hw5 hb1 hb2 hb3 hb4 hb5 hb6;have ci1:IntKind.i64.wrap b1=b1:=IntWalk.i64_in _ (by omega);have cu1:IntKind.u16.wrap b1=b1:=by rw[IntKind.wrap_u16];omega
   have ci2:IntKind.i64.wrap b2=b2:=IntWalk.i64_in _ (by omega);have cu2:IntKind.u16.wrap b2=b2:=by rw[IntKind.wrap_u16];omega
   have ci3:IntKind.i64.wrap b3=b3:=IntWalk.i64_in _ (by omega);have cu3:IntKind.u16.wrap b3=b3:=by rw[IntKind.wrap_u16];omega
   have ci4:IntKind.i64.wrap b4=b4:=IntWalk.i64_in _ (by omega);have cu4:IntKind.u16.wrap b4=b4:=by rw[IntKind.wrap_u16];omega
   have ci5:IntKind.i64.wrap b5=b5:=IntWalk.i64_in _ (by omega);have cu5:IntKind.u16.wrap b5=b5:=by rw[IntKind.wrap_u16];omega
   have ci6:IntKind.i64.wrap b6=b6:=IntWalk.i64_in _ (by omega);have cu6:IntKind.u16.wrap b6=b6:=by rw[IntKind.wrap_u16];omega
   go_wp2_with (first | (go_at_call 166;with_reducible refine(HW3.out _).mono ?_;rintro e w' ⟨rfl,nn3,rfl⟩) | (go_at_call 166;with_reducible refine(HW5.out _).mono ?_;rintro e w' ⟨rfl,nn5,rfl⟩))
   refine bodyPost_ret (v:= .agg #[.int .i64 op,.int .i64 (b1),.int .i64 (0),.int .u16 ((b3+256*b4)),.int .u16 ((b5+256*b6)),.int .i64 (b2),.int .i64 z]) (by simp[results,Tryz.results157,go_sem,r0,r1,r2,r3,r4,r5,r6,fzr,fzn,hne1,hne2]) rfl ⟨by rw[HK.out];rfl,?_⟩;repeat (first | with_reducible exact HB.out | refine Below.setCell ?_ (by first | with_reducible exact hgn | with_reducible exact Nat.le_refl _) _ | refine bK ?_ _)
  ·have hzn:z=4:=HZ.out.trans (by decide)
   have hsz:4≤s.size:=by omega
   clear hzn;obtain⟨l1,u1⟩:=ay s 1;have hi1:=bG s 1 (by omega);have hk1:1 < s.size:=by omega
   obtain⟨l2,u2⟩:=ay s 2;have hi2:=bG s 2 (by omega);have hk2:2 < s.size:=by omega
   obtain⟨l3,u3⟩:=ay s 3;have hi3:=bG s 3 (by omega);have hk3:3 < s.size:=by omega
   have hw2:=fun w=>eU s 2 w (by omega) HM.out
   obtain⟨b1,hb1⟩:∃ b,ba s 1=b:=⟨_,rfl⟩;rw[hb1] at l1 u1 hi1;obtain⟨b2,hb2⟩:∃ b,ba s 2=b:=⟨_,rfl⟩;rw[hb2] at l2 u2 hi2;obtain⟨b3,hb3⟩:∃ b,ba s 3=b:=⟨_,rfl⟩;rw[hb3] at l3 u3 hi3;have HW2:=Nc (show ∀ w,Calls Tryz.prog 166 #[.string s,.int .i64 2] w fun e w'=>e= .returned (.int .u16 (b2+256*b3))∧∃ n,w'=w.drewN n from fun w=>by have:=hw2 w;rw[hb2,hb3] at this;exact this);have HK:=Nc (show az 14 op z s=⟨op,b1,0,(b2+256*b3),0,0,z⟩ by rw[← hb1,← hb2,← hb3];rfl);clear hw2 hb1 hb2 hb3;have ci1:IntKind.i64.wrap b1=b1:=IntWalk.i64_in _ (by omega);have cu1:IntKind.u16.wrap b1=b1:=by rw[IntKind.wrap_u16];omega
   have ci2:IntKind.i64.wrap b2=b2:=IntWalk.i64_in _ (by omega);have cu2:IntKind.u16.wrap b2=b2:=by rw[IntKind.wrap_u16];omega
   have ci3:IntKind.i64.wrap b3=b3:=IntWalk.i64_in _ (by omega);have cu3:IntKind.u16.wrap b3=b3:=by rw[IntKind.wrap_u16];omega
   go_wp2_with (first | (go_at_call 166;with_reducible refine(HW2.out _).mono ?_;rintro e w' ⟨rfl,nn2,rfl⟩))
   refine bodyPost_ret (v:= .agg #[.int .i64 op,.int .i64 (b1),.int .i64 (0),.int .u16 ((b2+256*b3)),.int .u16 (0),.int .i64 (0),.int .i64 z]) (by simp[results,Tryz.results157,go_sem,r0,r1,r2,r3,r4,r5,r6,fzr,fzn,hne1,hne2]) rfl ⟨by rw[HK.out];rfl,?_⟩;repeat (first | with_reducible exact HB.out | refine Below.setCell ?_ (by first | with_reducible exact hgn | with_reducible exact Nat.le_refl _) _ | refine bK ?_ _)
  ·have hzn:z=3:=HZ.out.trans (by decide)
   have hsz:3≤s.size:=by omega
   clear hzn;obtain⟨l1,u1⟩:=ay s 1;have hi1:=bG s 1 (by omega);have hk1:1 < s.size:=by omega
   obtain⟨l2,u2⟩:=ay s 2;have hi2:=bG s 2 (by omega);have hk2:2 < s.size:=by omega
   obtain⟨b1,hb1⟩:∃ b,ba s 1=b:=⟨_,rfl⟩;rw[hb1] at l1 u1 hi1;obtain⟨b2,hb2⟩:∃ b,ba s 2=b:=⟨_,rfl⟩;rw[hb2] at l2 u2 hi2;have HK:=Nc (show az 15 op z s=⟨op,b1,0,b2,0,0,z⟩ by rw[← hb1,← hb2];rfl);clear hb1 hb2;have ci1:IntKind.i64.wrap b1=b1:=IntWalk.i64_in _ (by omega);have cu1:IntKind.u16.wrap b1=b1:=by rw[IntKind.wrap_u16];omega
   have ci2:IntKind.i64.wrap b2=b2:=IntWalk.i64_in _ (by omega);have cu2:IntKind.u16.wrap b2=b2:=by rw[IntKind.wrap_u16];omega
   go_wp2_with fail
   refine bodyPost_ret (v:= .agg #[.int .i64 op,.int .i64 (b1),.int .i64 (0),.int .u16 (b2),.int .u16 (0),.int .i64 (0),.int .i64 z]) (by simp[results,Tryz.results157,go_sem,r0,r1,r2,r3,r4,r5,r6,fzr,fzn,hne1,hne2]) rfl ⟨by rw[HK.out];rfl,?_⟩;repeat (first | with_reducible exact HB.out | refine Below.setCell ?_ (by first | with_reducible exact hgn | with_reducible exact Nat.le_refl _) _ | refine bK ?_ _)
  ·have hzn:z=5:=HZ.out.trans (by decide)
   have hsz:5≤s.size:=by omega
   clear hzn;obtain⟨l1,u1⟩:=ay s 1;have hi1:=bG s 1 (by omega);have hk1:1 < s.size:=by omega
   obtain⟨l2,u2⟩:=ay s 2;have hi2:=bG s 2 (by omega);have hk2:2 < s.size:=by omega
   obtain⟨l3,u3⟩:=ay s 3;have hi3:=bG s 3 (by omega);have hk3:3 < s.size:=by omega
   obtain⟨l4,u4⟩:=ay s 4;have hi4:=bG s 4 (by omega);have hk4:4 < s.size:=by omega
   have hw3:=fun w=>eU s 3 w (by omega) HM.out
   obtain⟨b1,hb1⟩:∃ b,ba s 1=b:=⟨_,rfl⟩;rw[hb1] at l1 u1 hi1;obtain⟨b2,hb2⟩:∃ b,ba s 2=b:=⟨_,rfl⟩;rw[hb2] at l2 u2 hi2;obtain⟨b3,hb3⟩:∃ b,ba s 3=b:=⟨_,rfl⟩;rw[hb3] at l3 u3 hi3;obtain⟨b4,hb4⟩:∃ b,ba s 4=b:=⟨_,rfl⟩;rw[hb4] at l4 u4 hi4;have HW3:=Nc (show ∀ w,Calls Tryz.prog 166 #[.string s,.int .i64 3] w fun e w'=>e= .returned (.int .u16 (b3+256*b4))∧∃ n,w'=w.drewN n from fun w=>by have:=hw3 w;rw[hb3,hb4] at this;exact this);have HK:=Nc (show az 16 op z s=⟨op,b1/16,b1%16,(b3+256*b4),0,b2,z⟩ by rw[← hb1,← hb2,← hb3,← hb4];rfl);clear hw3 hb1 hb2 hb3 hb4;have ci1:IntKind.i64.wrap b1=b1:=IntWalk.i64_in _ (by omega);have cu1:IntKind.u16.wrap b1=b1:=by rw[IntKind.wrap_u16];omega
   have ci2:IntKind.i64.wrap b2=b2:=IntWalk.i64_in _ (by omega);have cu2:IntKind.u16.wrap b2=b2:=by rw[IntKind.wrap_u16];omega
   have ci3:IntKind.i64.wrap b3=b3:=IntWalk.i64_in _ (by omega);have cu3:IntKind.u16.wrap b3=b3:=by rw[IntKind.wrap_u16];omega
   have ci4:IntKind.i64.wrap b4=b4:=IntWalk.i64_in _ (by omega);have cu4:IntKind.u16.wrap b4=b4:=by rw[IntKind.wrap_u16];omega
   have hq1:b1.tdiv 16=b1/16:=Int.tdiv_eq_ediv_of_nonneg l1;have hq2:b1.tmod 16=b1%16:=Int.tmod_eq_emod_of_nonneg l1;have hq3:IntKind.u8.wrap (b1/16)=b1/16:=by rw[IntKind.wrap_u8'];omega
   have hq4:IntKind.u8.wrap (b1%16)=b1%16:=by rw[IntKind.wrap_u8'];omega
   have hq5:IntKind.i64.wrap (b1/16)=b1/16:=IntWalk.i64_in _ (by omega);have hq6:IntKind.i64.wrap (b1%16)=b1%16:=IntWalk.i64_in _ (by omega);go_wp2_with (first | (go_at_call 166;with_reducible refine(HW3.out _).mono ?_;rintro e w' ⟨rfl,nn3,rfl⟩))
   refine bodyPost_ret (v:= .agg #[.int .i64 op,.int .i64 (b1/16),.int .i64 (b1%16),.int .u16 ((b3+256*b4)),.int .u16 (0),.int .i64 (b2),.int .i64 z]) (by simp[results,Tryz.results157,go_sem,r0,r1,r2,r3,r4,r5,r6,fzr,fzn,hne1,hne2]) rfl ⟨by rw[HK.out];rfl,?_⟩;repeat (first | with_reducible exact HB.out | refine Below.setCell ?_ (by first | with_reducible exact hgn | with_reducible exact Nat.le_refl _) _ | refine bK ?_ _)
  ·have hzn:z=6:=HZ.out.trans (by decide)
   have hsz:6≤s.size:=by omega
   clear hzn;obtain⟨l1,u1⟩:=ay s 1;have hi1:=bG s 1 (by omega);have hk1:1 < s.size:=by omega
   obtain⟨l2,u2⟩:=ay s 2;have hi2:=bG s 2 (by omega);have hk2:2 < s.size:=by omega
   obtain⟨l3,u3⟩:=ay s 3;have hi3:=bG s 3 (by omega);have hk3:3 < s.size:=by omega
   obtain⟨l4,u4⟩:=ay s 4;have hi4:=bG s 4 (by omega);have hk4:4 < s.size:=by omega
   obtain⟨l5,u5⟩:=ay s 5;have hi5:=bG s 5 (by omega);have hk5:5 < s.size:=by omega
   have hw2:=fun w=>eU s 2 w (by omega) HM.out
   have hw4:=fun w=>eU s 4 w (by omega) HM.out
   obtain⟨b1,hb1⟩:∃ b,ba s 1=b:=⟨_,rfl⟩;rw[hb1] at l1 u1 hi1;obtain⟨b2,hb2⟩:∃ b,ba s 2=b:=⟨_,rfl⟩;rw[hb2] at l2 u2 hi2;obtain⟨b3,hb3⟩:∃ b,ba s 3=b:=⟨_,rfl⟩;rw[hb3] at l3 u3 hi3;obtain⟨b4,hb4⟩:∃ b,ba s 4=b:=⟨_,rfl⟩;rw[hb4] at l4 u4 hi4;obtain⟨b5,hb5⟩:∃ b,ba s 5=b:=⟨_,rfl⟩;rw[hb5] at l5 u5 hi5;have HW2:=Nc (show ∀ w,Calls Tryz.prog 166 #[.string s,.int .i64 2] w fun e w'=>e= .returned (.int .u16 (b2+256*b3))∧∃ n,w'=w.drewN n from fun w=>by have:=hw2 w;rw[hb2,hb3] at this;exact this);have HW4:=Nc (show ∀ w,Calls Tryz.prog 166 #[.string s,.int .i64 4] w fun e w'=>e= .returned (.int .u16 (b4+256*b5))∧∃ n,w'=w.drewN n from fun w=>by have:=hw4 w;rw[hb4,hb5] at this;exact this);have HK:=Nc (show az 17 op z s=⟨op,0,b1,(b2+256*b3),(b4+256*b5),0,z⟩ by rw[← hb1,← hb2,← hb3,← hb4,← hb5];rfl);clear hw2 hw4 hb1 hb2 hb3 hb4 hb5;have ci1:IntKind.i64.wrap b1=b1:=IntWalk.i64_in _ (by omega);have cu1:IntKind.u16.wrap b1=b1:=by rw[IntKind.wrap_u16];omega
   have ci2:IntKind.i64.wrap b2=b2:=IntWalk.i64_in _ (by omega);have cu2:IntKind.u16.wrap b2=b2:=by rw[IntKind.wrap_u16];omega
   have ci3:IntKind.i64.wrap b3=b3:=IntWalk.i64_in _ (by omega);have cu3:IntKind.u16.wrap b3=b3:=by rw[IntKind.wrap_u16];omega
   have ci4:IntKind.i64.wrap b4=b4:=IntWalk.i64_in _ (by omega);have cu4:IntKind.u16.wrap b4=b4:=by rw[IntKind.wrap_u16];omega
   have ci5:IntKind.i64.wrap b5=b5:=IntWalk.i64_in _ (by omega);have cu5:IntKind.u16.wrap b5=b5:=by rw[IntKind.wrap_u16];omega
   go_wp2_with (first | (go_at_call 166;with_reducible refine(HW2.out _).mono ?_;rintro e w' ⟨rfl,nn2,rfl⟩) | (go_at_call 166;with_reducible refine(HW4.out _).mono ?_;rintro e w' ⟨rfl,nn4,rfl⟩))
   refine bodyPost_ret (v:= .agg #[.int .i64 op,.int .i64 (0),.int .i64 (b1),.int .u16 ((b2+256*b3)),.int .u16 ((b4+256*b5)),.int .i64 (0),.int .i64 z]) (by simp[results,Tryz.results157,go_sem,r0,r1,r2,r3,r4,r5,r6,fzr,fzn,hne1,hne2]) rfl ⟨by rw[HK.out];rfl,?_⟩;repeat (first | with_reducible exact HB.out | refine Below.setCell ?_ (by first | with_reducible exact hgn | with_reducible exact Nat.le_refl _) _ | refine bK ?_ _)
  ·have hzn:z=3:=HZ.out.trans (by decide)
   have hsz:3≤s.size:=by omega
   clear hzn;obtain⟨l1,u1⟩:=ay s 1;have hi1:=bG s 1 (by omega);have hk1:1 < s.size:=by omega
   obtain⟨l2,u2⟩:=ay s 2;have hi2:=bG s 2 (by omega);have hk2:2 < s.size:=by omega
   obtain⟨b1,hb1⟩:∃ b,ba s 1=b:=⟨_,rfl⟩;rw[hb1] at l1 u1 hi1;obtain⟨b2,hb2⟩:∃ b,ba s 2=b:=⟨_,rfl⟩;rw[hb2] at l2 u2 hi2;have HX2:=Nc (fun w=>iU b2 w l2 u2);have HK:=Nc (show az 18 op z s=⟨op,b1,0,dW (b2),0,0,z⟩ by rw[← hb1,← hb2];rfl);clear hb1 hb2;have ci1:IntKind.i64.wrap b1=b1:=IntWalk.i64_in _ (by omega);have cu1:IntKind.u16.wrap b1=b1:=by rw[IntKind.wrap_u16];omega
   have ci2:IntKind.i64.wrap b2=b2:=IntWalk.i64_in _ (by omega);have cu2:IntKind.u16.wrap b2=b2:=by rw[IntKind.wrap_u16];omega
   go_wp2_with (first | (go_at_call 46;with_reducible refine(HX2.out _).mono ?_;rintro e w' ⟨rfl,rfl⟩))
   refine bodyPost_ret (v:= .agg #[.int .i64 op,.int .i64 (b1),.int .i64 (0),.int .u16 (dW (b2)),.int .u16 (0),.int .i64 (0),.int .i64 z]) (by simp[results,Tryz.results157,go_sem,r0,r1,r2,r3,r4,r5,r6,fzr,fzn,hne1,hne2]) rfl ⟨by rw[HK.out];rfl,?_⟩;repeat (first | with_reducible exact HB.out | refine Below.setCell ?_ (by first | with_reducible exact hgn | with_reducible exact Nat.le_refl _) _ | refine bK ?_ _)
end Go.Proofs.YthkcloapiefggaaGreatDoor
