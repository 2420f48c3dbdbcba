/- The walk of CpuStack. -/
import Derived.Test.YthkcloapiefggaaGreatDoorSks
import Derived.Test.YthkcloapiefggaaGreatDoorSan
import Derived.Test.YthkcloapiefggaaGreatDoorOpn
import Derived.Test.YthkcloapiefggaaGreatDoorTwx
import Derived.Test.YthkcloapiefggaaGreatDoorEncW
namespace Go.Proofs.YthkcloapiefggaaGreatDoor.cpuStack
set_option linter.unusedVariables false
set_option linter.unusedSimpArgs false
set_option maxRecDepth 100000
set_option maxHeartbeats 1000000
open Go.ChangeShapes Go.WideShapes Go.RowKit

def skL (n : Nat) : List Ins := [⟨16, 1, 0, 0, 0, 0, 2⟩, ⟨16, 2, 0, 0, 0, 0, 2⟩, ⟨20, 0, 0, n, 0, 0, 2⟩, ⟨162, 3, 0, 65534, 0, 0, 3⟩, ⟨160, 4, 0, ((n : Int) + 1), 0, 0, 3⟩, ⟨5, 0, 0, 0, 0, 0, 1⟩, ⟨17, 5, 0, 0, 0, 0, 2⟩, ⟨160, 6, 0, 0, 0, 0, 3⟩, ⟨21, 0, 0, 1, 0, 0, 2⟩, ⟨1, 0, 0, 0, 0, 0, 1⟩]
def skC (n : Nat) : Array Value := #[.int .i64 16, .int .i64 1, .int .i64 0, .int .u16 0, .int .u16 0, .int .i64 0, .int .i64 2, .int .i64 16, .int .i64 2, .int .i64 0, .int .u16 0, .int .u16 0, .int .i64 0, .int .i64 2, .int .i64 20, .int .i64 0, .int .i64 0, .int .u16 n, .int .u16 0, .int .i64 0, .int .i64 2, .int .i64 162, .int .i64 3, .int .i64 0, .int .u16 65534, .int .u16 0, .int .i64 0, .int .i64 3, .int .i64 160, .int .i64 4, .int .i64 0, .int .u16 ((n : Int) + 1), .int .u16 0, .int .i64 0, .int .i64 3, .int .i64 5, .int .i64 0, .int .i64 0, .int .u16 0, .int .u16 0, .int .i64 0, .int .i64 1, .int .i64 17, .int .i64 5, .int .i64 0, .int .u16 0, .int .u16 0, .int .i64 0, .int .i64 2, .int .i64 160, .int .i64 6, .int .i64 0, .int .u16 0, .int .u16 0, .int .i64 0, .int .i64 3, .int .i64 21, .int .i64 0, .int .i64 0, .int .u16 1, .int .u16 0, .int .i64 0, .int .i64 2, .int .i64 1, .int .i64 0, .int .i64 0, .int .u16 0, .int .u16 0, .int .i64 0, .int .i64 1]
theorem two {z : List Int} (h : z.length = 2) : ∃ a b, z = [a, b] := by
  match z, h with
  | [a, b], _ => exact ⟨a, b, rfl⟩
theorem infoIns3 : (Tryz.prog.info? 58).map (fun i => (i.zero, i.size)) = some (some (.agg #[.int .i64 0, .int .i64 0, .int .i64 0, .int .u16 0, .int .u16 0, .int .i64 0, .int .i64 0]), 7) := by kernel_rfl
/-- The state that CpuStack builds. -/
def skX (n : Nat) (r : Nat → Int) (fp : Int) : Sn := { pX (oneI 0 (skS n)) with r := r, fp := fp }
theorem skX_ok {n : Nat} {v0 v1 : Int} (h : ∀ x ∈ [v0, v1], U16 x) : (skX n (upd (upd (fun _ => 0) 1 v0) 2 v1) 9).Ok :=
  ⟨upd_all (Q := U16) (upd_all (Q := U16) (fun _ _ => u16_0) (h v0 (by simp))) (h v1 (by simp)), u16_0, (show U16 9 from ⟨by decide, by decide⟩), u16_0, i64_0, i64_0, i64_0, i64_0, by intro x hx; simp [skX, pX] at hx; rcases hx with rfl | rfl <;> exact ⟨by decide, by decide⟩, by intro e he; simp [skX, pX] at he⟩
def skP (n : Nat) : Nat → ByteArray
  | 0 => ⟨#[]⟩
  | k + 1 => skP n k ++ encS ((skL n).getD k zIns)
theorem ten {P : Nat → Prop} (h0 : P 0) (h1 : P 1) (h2 : P 2) (h3 : P 3) (h4 : P 4) (h5 : P 5) (h6 : P 6) (h7 : P 7) (h8 : P 8) (h9 : P 9) (k : Nat) (hk : k < 10) : P k := by
  rcases (show k = 0 ∨ k = 1 ∨ k = 2 ∨ k = 3 ∨ k = 4 ∨ k = 5 ∨ k = 6 ∨ k = 7 ∨ k = 8 ∨ k = 9 by omega) with rfl | rfl | rfl | rfl | rfl | rfl | rfl | rfl | rfl | rfl <;> assumption
theorem of_list {a b : ByteArray} (h : a.data.toList = b.data.toList) : a = b := ByteArray.ext (Array.toList_inj.1 h)
theorem enc20 (n : Nat) (hn : n < 200) : encS ⟨20, 0, 0, (n : Int), 0, 0, 2⟩ = ⟨#[20, UInt8.ofNat n]⟩ := by
  have h : ((List.range 200).all fun n => (encS ⟨20, 0, 0, (n : Int), 0, 0, 2⟩).data.toList == [20, UInt8.ofNat n]) = true := by kernel_rfl
  exact of_list (eq_of_beq (List.all_eq_true.1 h n (List.mem_range.2 hn)))
theorem enc160 (n : Nat) (hn : n < 200) : encS ⟨160, 4, 0, (n : Int) + 1, 0, 0, 3⟩ = ⟨#[160, 4, UInt8.ofNat (n + 1)]⟩ := by
  have h : ((List.range 200).all fun n => (encS ⟨160, 4, 0, (n : Int) + 1, 0, 0, 3⟩).data.toList == [160, 4, UInt8.ofNat (n + 1)]) = true := by kernel_rfl
  exact of_list (eq_of_beq (List.all_eq_true.1 h n (List.mem_range.2 hn)))
theorem skL_enc (n : Nat) (hn : n < 200) (k : Nat) (hk : k < 10) : encS ((skL n).getD k zIns) = [(⟨#[16, 1]⟩ : ByteArray), ⟨#[16, 2]⟩, ⟨#[20, UInt8.ofNat n]⟩, ⟨#[162, 3, 254]⟩, ⟨#[160, 4, UInt8.ofNat (n + 1)]⟩, ⟨#[5]⟩, ⟨#[17, 5]⟩, ⟨#[160, 6, 0]⟩, ⟨#[21, 1]⟩, ⟨#[1]⟩].getD k ⟨#[]⟩ :=
  ten (P := fun k => encS ((skL n).getD k zIns) = [(⟨#[16, 1]⟩ : ByteArray), ⟨#[16, 2]⟩, ⟨#[20, UInt8.ofNat n]⟩, ⟨#[162, 3, 254]⟩, ⟨#[160, 4, UInt8.ofNat (n + 1)]⟩, ⟨#[5]⟩, ⟨#[17, 5]⟩, ⟨#[160, 6, 0]⟩, ⟨#[21, 1]⟩, ⟨#[1]⟩].getD k ⟨#[]⟩)
    (by kernel_rfl) (by kernel_rfl) (enc20 n hn) (by kernel_rfl) (enc160 n hn) (by kernel_rfl) (by kernel_rfl) (by kernel_rfl) (by kernel_rfl) (by kernel_rfl) k hk
theorem skL_sz (n : Nat) (hn : n < 200) (k : Nat) (hk : k < 10) : (encS ((skL n).getD k zIns)).size ≤ 3 := by
  rw [skL_enc n hn k hk]
  exact ten (P := fun k => ([(⟨#[16, 1]⟩ : ByteArray), ⟨#[16, 2]⟩, ⟨#[20, UInt8.ofNat n]⟩, ⟨#[162, 3, 254]⟩, ⟨#[160, 4, UInt8.ofNat (n + 1)]⟩, ⟨#[5]⟩, ⟨#[17, 5]⟩, ⟨#[160, 6, 0]⟩, ⟨#[21, 1]⟩, ⟨#[1]⟩].getD k ⟨#[]⟩).size ≤ 3)
    (show 2 ≤ 3 by decide) (show 2 ≤ 3 by decide) (show 2 ≤ 3 by decide) (show 3 ≤ 3 by decide) (show 3 ≤ 3 by decide) (show 1 ≤ 3 by decide) (show 2 ≤ 3 by decide) (show 3 ≤ 3 by decide) (show 2 ≤ 3 by decide) (show 1 ≤ 3 by decide) k hk
theorem skP_eq (n : Nat) (hn : n < 200) : skP n 10 = skS n := by
  have e := skL_enc n hn
  show (((((((((((⟨#[]⟩ : ByteArray) ++ _) ++ _) ++ _) ++ _) ++ _) ++ _) ++ _) ++ _) ++ _) ++ _) = _
  rw [e 0 (by decide), e 1 (by decide), e 2 (by decide), e 3 (by decide), e 4 (by decide), e 5 (by decide), e 6 (by decide), e 7 (by decide), e 8 (by decide), e 9 (by decide)]
  exact of_list (by simp [skS, ByteArray.data_append])
theorem skP_size (n : Nat) (hn : n < 200) : ∀ k, k ≤ 10 → (skP n k).size ≤ 3 * k
  | 0, _ => Nat.le_refl _
  | k + 1, h => by
    show (skP n k ++ encS ((skL n).getD k zIns)).size ≤ _
    rw [ByteArray.size_append]
    have := skP_size n hn k (by omega)
    have := skL_sz n hn k (by omega)
    omega
theorem okI {op d im sz : Int} (h : (0 ≤ op ∧ op < 256) ∧ (0 ≤ d ∧ d < 256) ∧ (0 ≤ im ∧ im < 65536) ∧ (0 ≤ sz ∧ sz < 16)) : Ins.Ok ⟨op, d, 0, im, 0, 0, sz⟩ := by
  constructor <;> simp only <;> omega
theorem skL_ok (n : Nat) (hn : n < 200) (k : Nat) (hk : k < 10) : ((skL n).getD k zIns).Ok :=
  ten (P := fun k => ((skL n).getD k zIns).Ok) (show Ins.Ok ⟨16, 1, 0, 0, 0, 0, 2⟩ from okI (by omega)) (show Ins.Ok ⟨16, 2, 0, 0, 0, 0, 2⟩ from okI (by omega)) (show Ins.Ok ⟨20, 0, 0, n, 0, 0, 2⟩ from okI (by omega)) (show Ins.Ok ⟨162, 3, 0, 65534, 0, 0, 3⟩ from okI (by omega)) (show Ins.Ok ⟨160, 4, 0, ((n : Int) + 1), 0, 0, 3⟩ from okI (by omega)) (show Ins.Ok ⟨5, 0, 0, 0, 0, 0, 1⟩ from okI (by omega)) (show Ins.Ok ⟨17, 5, 0, 0, 0, 0, 2⟩ from okI (by omega)) (show Ins.Ok ⟨160, 6, 0, 0, 0, 0, 3⟩ from okI (by omega)) (show Ins.Ok ⟨21, 0, 0, 1, 0, 0, 2⟩ from okI (by omega)) (show Ins.Ok ⟨1, 0, 0, 0, 0, 0, 1⟩ from okI (by omega)) k hk
theorem infoIns7 : (Tryz.prog.info? 58).map (·.size) = some 7 := by kernel_rfl
def insL7 (i : Ins) : List Value := [.int .i64 i.op, .int .i64 i.d, .int .i64 i.s, .int .u16 i.im, .int .u16 i.ax, .int .i64 i.bk, .int .i64 i.sz]
theorem row7 {U : World} {g k : Nat} {A : Array Value} {ty : TypeId} (h : U.heap[g]? = some (.cells A ty (0, 0))) {i : Ins} (hA : ∀ j, j < 7 → A[k * 7 + j]? = (insL7 i)[j]?) : U.rangeAt g (k * 7) (insL7 i) := fun j v hv => by
  have hj : j < 7 := (List.getElem?_eq_some_iff.1 hv).1
  exact block_cells h _ _ ((hA j hj).trans hv)
theorem sk_row (n : Nat) {U : World} {g : Nat} (h : U.heap[g]? = some (.cells (skC n) 58 (0, 0))) (k : Nat) (hk : k < 10) : U.rangeAt g (k * 7) (insL7 ((skL n).getD k zIns)) :=
  row7 h fun j hj => ten (P := fun k => (skC n)[k * 7 + j]? = (insL7 ((skL n).getD k zIns))[j]?)
    (by rcases (show j = 0 ∨ j = 1 ∨ j = 2 ∨ j = 3 ∨ j = 4 ∨ j = 5 ∨ j = 6 by omega) with rfl | rfl | rfl | rfl | rfl | rfl | rfl <;> rfl) (by rcases (show j = 0 ∨ j = 1 ∨ j = 2 ∨ j = 3 ∨ j = 4 ∨ j = 5 ∨ j = 6 by omega) with rfl | rfl | rfl | rfl | rfl | rfl | rfl <;> rfl) (by rcases (show j = 0 ∨ j = 1 ∨ j = 2 ∨ j = 3 ∨ j = 4 ∨ j = 5 ∨ j = 6 by omega) with rfl | rfl | rfl | rfl | rfl | rfl | rfl <;> rfl) (by rcases (show j = 0 ∨ j = 1 ∨ j = 2 ∨ j = 3 ∨ j = 4 ∨ j = 5 ∨ j = 6 by omega) with rfl | rfl | rfl | rfl | rfl | rfl | rfl <;> rfl) (by rcases (show j = 0 ∨ j = 1 ∨ j = 2 ∨ j = 3 ∨ j = 4 ∨ j = 5 ∨ j = 6 by omega) with rfl | rfl | rfl | rfl | rfl | rfl | rfl <;> rfl) (by rcases (show j = 0 ∨ j = 1 ∨ j = 2 ∨ j = 3 ∨ j = 4 ∨ j = 5 ∨ j = 6 by omega) with rfl | rfl | rfl | rfl | rfl | rfl | rfl <;> rfl) (by rcases (show j = 0 ∨ j = 1 ∨ j = 2 ∨ j = 3 ∨ j = 4 ∨ j = 5 ∨ j = 6 by omega) with rfl | rfl | rfl | rfl | rfl | rfl | rfl <;> rfl) (by rcases (show j = 0 ∨ j = 1 ∨ j = 2 ∨ j = 3 ∨ j = 4 ∨ j = 5 ∨ j = 6 by omega) with rfl | rfl | rfl | rfl | rfl | rfl | rfl <;> rfl) (by rcases (show j = 0 ∨ j = 1 ∨ j = 2 ∨ j = 3 ∨ j = 4 ∨ j = 5 ∨ j = 6 by omega) with rfl | rfl | rfl | rfl | rfl | rfl | rfl <;> rfl) (by rcases (show j = 0 ∨ j = 1 ∨ j = 2 ∨ j = 3 ∨ j = 4 ∨ j = 5 ∨ j = 6 by omega) with rfl | rfl | rfl | rfl | rfl | rfl | rfl <;> rfl) k hk
set_option maxHeartbeats 20000000 in
theorem walk (w : World) (z : List Int) (hz : z.length = 2) (hzu : ∀ x ∈ z, U16 x) (f : Int) (hf : 0 ≤ f ∧ f < 256) (ht : TabF w)
    (hsan : ∀ W, TabF W → Calls Tryz.prog 12 #[] W fun e w' => e = .returned (.bool true) ∧ Below W.heap.size W w') :
    Calls Tryz.prog 9 #[.agg (z.map (Value.int .u16)).toArray, .int .u8 f] w fun e w' => e = .returned (.bool true) ∧ Below w.heap.size w w' := by
  obtain ⟨v0, v1, rfl⟩ := two hz
  show Calls Tryz.prog 9 #[.agg #[.int .u16 v0, .int .u16 v1], .int .u8 f] w _
  have HPos : Hid (0 < w.heap.size) := Lib.hid (by obtain ⟨_, _, h⟩ := ht; exact lt_of_block h)
  have HTab := Lib.hid ht
  have HSan := Lib.hid hsan
  have HZ := Lib.hid hzu
  have hf0 := hf.1
  have hf1 := hf.2
  obtain ⟨n, hn⟩ : ∃ n : Nat, f % 200 = (n : Int) := ⟨(f % 200).toNat, by omega⟩
  have hn200 : (n : Int) < 200 := by omega
  have htm : f.tmod 200 = (n : Int) := (Int.tmod_eq_emod_of_nonneg hf0).trans hn
  have hw8 : IntKind.u8.wrap (n : Int) = (n : Int) := (IntKind.wrap_u8 _).trans (Int.emod_eq_of_lt (by omega) (by omega))
  have hw16 : IntKind.u16.wrap (n : Int) = (n : Int) := (IntKind.wrap_u16 _).trans (Int.emod_eq_of_lt (by omega) (by omega))
  have hw17 : IntKind.u16.wrap ((n : Int) + 1) = (n : Int) + 1 := (IntKind.wrap_u16 _).trans (Int.emod_eq_of_lt (by omega) (by omega))
  clear ht hsan hf hz hzu
  go_enter Tryz.func9, Tryz.ntmps9
  go_wp2_with fail
  refine (HSan.out _ (tabF_below HPos.out HTab.out ((Below.refl _ _).alloc (Nat.le_refl _) _))).mono ?_
  rintro e w1 ⟨rfl, hb1⟩
  have HBx0 := Lib.hid (block_next (heap_alloc_new w (.cells #[.int .u16 v0, .int .u16 v1] 69)) hb1)
  have HB1 := Lib.hid (((Below.refl _ w).alloc (Nat.le_refl _) (.cells #[.int .u16 v0, .int .u16 v1] 69)).trans (hb1.mono (by simp)))
  clear hb1 HSan
  go_upto_region 4 with fail
  obtain ⟨W2, hW2⟩ : ∃ W, w1.alloc (.cells (skC n) 58) = W := ⟨_, rfl⟩
  have HB2 := Lib.hid (show Below w.heap.size w W2 by rw [← hW2]; exact HB1.out.alloc HB1.out.size _)
  have HBx2 := Lib.hid (show W2.heap[w.heap.size]? = some (.cells #[.int .u16 v0, .int .u16 v1] 69 (0, 0)) by rw [← hW2]; exact heap_old _ _ _ HBx0.out)
  have HL2 := heap_alloc_new w1 (.cells (skC n) 58)
  rw [hW2] at HL2
  have hW2' : w1.alloc (.cells #[.int .i64 16, .int .i64 1, .int .i64 0, .int .u16 0, .int .u16 0, .int .i64 0, .int .i64 2, .int .i64 16, .int .i64 2, .int .i64 0, .int .u16 0, .int .u16 0, .int .i64 0, .int .i64 2, .int .i64 20, .int .i64 0, .int .i64 0, .int .u16 n, .int .u16 0, .int .i64 0, .int .i64 2, .int .i64 162, .int .i64 3, .int .i64 0, .int .u16 65534, .int .u16 0, .int .i64 0, .int .i64 3, .int .i64 160, .int .i64 4, .int .i64 0, .int .u16 ((n : Int) + 1), .int .u16 0, .int .i64 0, .int .i64 3, .int .i64 5, .int .i64 0, .int .i64 0, .int .u16 0, .int .u16 0, .int .i64 0, .int .i64 1, .int .i64 17, .int .i64 5, .int .i64 0, .int .u16 0, .int .u16 0, .int .i64 0, .int .i64 2, .int .i64 160, .int .i64 6, .int .i64 0, .int .u16 0, .int .u16 0, .int .i64 0, .int .i64 3, .int .i64 21, .int .i64 0, .int .i64 0, .int .u16 1, .int .u16 0, .int .i64 0, .int .i64 2, .int .i64 1, .int .i64 0, .int .i64 0, .int .u16 0, .int .u16 0, .int .i64 0, .int .i64 1] 58) = W2 := hW2
  rw [hW2']
  clear hW2'
  obtain ⟨g2, hg2⟩ : ∃ m, w1.heap.size = m := ⟨_, rfl⟩
  rw [hg2] at HL2
  rw [hg2]
  have HLd := Lib.hid (fun U (hU : Below W2.heap.size W2 U) k (hk : k < 10) => sk_row n (block_next HL2 hU) k hk)
  clear hW2 hg2 HL2 hw8 hw16 hw17 htm
  go_wp2_with fail
  go_loopw [8, 9] (fun vs vk wr => ∃ k : Nat, k ≤ 10 ∧ vs = .string (skP n k) ∧ vk = .int .i64 k ∧ Hid (Below W2.heap.size W2 wr)) (fun _ vk _ => 10 - (intOf vk).toNat)
  case atStart => exact ⟨0, Nat.zero_le _, rfl, rfl, Lib.hid (Below.refl _ _)⟩
  case round =>
    obtain ⟨k, hk, rfl, rfl, HK⟩ := hrel
    have hsz := skP_size n (by omega) k hk
    by_cases hlt : k < 10
    · have hlt' : (k : Int) < 10 := by omega
      have hk0 : (0 : Int) ≤ (k : Int) := by omega
      have hs1 : (skP n k).size ≤ 30 := by omega
      have HRow := Lib.hid (HLd.out wr HK.out k hlt)
      obtain ⟨i, hi⟩ : ∃ i, (skL n).getD k zIns = i := ⟨_, rfl⟩
      rw [hi] at HRow
      have HEn := Lib.hid (fun W => rencode_any i W (by rw [← hi]; exact skL_ok n (by omega) k hlt))
      have hse : (encS i).size ≤ 3 := by rw [← hi]; exact skL_sz n (by omega) k hlt
      have HNx := Lib.hid (show skP n (k + 1) = skP n k ++ encS i by rw [← hi]; rfl)
      obtain ⟨op, d, s, im, ax, bk, sz⟩ := i
      clear hsz hi
      go_wp2_with (refine wpList_load_mid rfl 58 _ rfl g2 (k * 7) rfl [.int .i64 op, .int .i64 d, .int .i64 s, .int .u16 im, .int .u16 ax, .int .i64 bk, .int .i64 sz] _ HRow.out Tryz.underlying58 rfl infoIns7 ?_)
      refine (HEn.out _).mono ?_
      rintro e w5 ⟨rfl, hb5⟩
      have HK5 := Lib.hid (HK.out.trans (hb5.mono HK.out.size))
      clear hb5
      go_wp2_with fail
      go_roundw
      case rel => exact ⟨k + 1, by omega, by rw [HNx.out], by go_num, HK5⟩
      case measure => simp [intOf]; omega
    · obtain rfl : k = 10 := by omega
      have HSm := Lib.hid (show (skP n 10).size ≤ 1000000000 by omega)
      clear hsz
      go_wp2_with fail
      refine (image_any (skP n 10) _ HSm.out).mono ?_
      rintro e w3 ⟨⟨g, rfl, hg, hbk⟩, hb3⟩
      have hbr := HB2.out.trans (HK.out.mono HB2.out.size)
      have hB : Below w.heap.size w (w3.alloc (.cells #[.slice (some ⟨g, 0, none⟩) 1 1, .int .u16 0, .int .u16 0, .slice none 0 0, .slice none 0 0] 33)) := (hbr.trans (hb3.mono hbr.size)).alloc (Nat.le_trans hbr.size hb3.size) _
      have hBx := heap_alloc_new w3 (.cells #[.slice (some ⟨g, 0, none⟩) 1 1, .int .u16 0, .int .u16 0, .slice none 0 0, .slice none 0 0] 33)
      have hBk := heap_old _ (.cells #[.slice (some ⟨g, 0, none⟩) 1 1, .int .u16 0, .int .u16 0, .slice none 0 0, .slice none 0 0] 33) _ hbk
      have hB0 := heap_old _ (.cells #[.slice (some ⟨g, 0, none⟩) 1 1, .int .u16 0, .int .u16 0, .slice none 0 0, .slice none 0 0] 33) _ (block_next (block_next HBx2.out HK.out) hb3)
      clear hb3 hg hbk hbr
      go_upto_region 11 with fail
      obtain ⟨W6, hW6⟩ : ∃ W, w3.alloc (.cells #[.slice (some ⟨g, 0, none⟩) 1 1, .int .u16 0, .int .u16 0, .slice none 0 0, .slice none 0 0] 33) = W := ⟨_, rfl⟩
      rw [hW6] at hB hBx hBk hB0
      rw [hW6]
      obtain ⟨n4, hn4⟩ : ∃ m, w3.heap.size = m := ⟨_, rfl⟩
      rw [hn4] at hBx
      rw [hn4]
      rw [skP_eq n (by omega)] at hBk
      have HB6 := Lib.hid hB
      have HR6 := Lib.hid (show W6.rangeAt n4 0 (imL (oneP g) (oneI 0 (skS n))) from range_at hBx _ (fun j v hv => by rw [← hv]; simp [imL, oneP, oneI]))
      have HHas6 := Lib.hid (one_has 0 (skS n) hBk)
      have H06 := Lib.hid hB0
      clear hW6 hn4 hB hBx hBk hB0
      go_wp2_with (refine wpList_load_mid rfl 33 _ rfl n4 0 rfl (imL (oneP g) (oneI 0 (skS n))) _ HR6.out Tryz.underlying33 rfl infoIm ?_)
      refine (pstart_any (oneP g) (oneI 0 (skS n)) W6).mono ?_
      rintro e w7 ⟨⟨p5, c5, q5, d5, rfl, hs5, hf5, hf6⟩, hb7⟩
      have HN7 := Lib.hid (heap_alloc_new w7 (.cells #[.int .u16 0, .int .u16 0, .int .u16 0, .int .u16 0, .int .u16 0, .int .u16 0, .int .u16 0, .int .u16 0, .int .u16 0, .int .u16 0, .int .u16 0, .int .u16 0, .int .i64 0, .int .i64 0, .int .i64 0, .int .i64 0, .string ⟨#[]⟩, .slice none 0 0, .slice none 0 0] 40))
      have HX7 := Lib.hid (SnBx.new hs5 (c := c5) (d := d5) #[.int .u16 0, .int .u16 0, .int .u16 0, .int .u16 0, .int .u16 0, .int .u16 0, .int .u16 0, .int .u16 0, .int .u16 0, .int .u16 0, .int .u16 0, .int .u16 0, .int .i64 0, .int .i64 0, .int .i64 0, .int .i64 0, .string ⟨#[]⟩, .slice none 0 0, .slice none 0 0])
      have HB67 := Lib.hid (show Below W6.heap.size W6 ((w7.alloc (.cells #[.int .u16 0, .int .u16 0, .int .u16 0, .int .u16 0, .int .u16 0, .int .u16 0, .int .u16 0, .int .u16 0, .int .u16 0, .int .u16 0, .int .u16 0, .int .u16 0, .int .i64 0, .int .i64 0, .int .i64 0, .int .i64 0, .string ⟨#[]⟩, .slice none 0 0, .slice none 0 0] 40)).setRow w7.heap.size (snA (pX (oneI 0 (skS n))) p5 c5 q5 d5)) from below_setRow (hb7.alloc hb7.size _) hb7.size _)
      have HS7 := Lib.hid hb7.size
      clear hs5 hf5 hf6 hb7
      go_upto_region 12 with (refine wpList_store_row rfl 40 _ _ rfl w7.heap.size (snA (pX (oneI 0 (skS n))) p5 c5 q5 d5) rfl rfl 40 _ HN7.out infoSn (by rfl) (by simp [snA, Value.oneCell']) ?_)
      obtain ⟨W8, hW8⟩ : ∃ W, (w7.alloc (.cells #[.int .u16 0, .int .u16 0, .int .u16 0, .int .u16 0, .int .u16 0, .int .u16 0, .int .u16 0, .int .u16 0, .int .u16 0, .int .u16 0, .int .u16 0, .int .u16 0, .int .i64 0, .int .i64 0, .int .i64 0, .int .i64 0, .string ⟨#[]⟩, .slice none 0 0, .slice none 0 0] 40)).setRow w7.heap.size (snA (pX (oneI 0 (skS n))) p5 c5 q5 d5) = W := ⟨_, rfl⟩
      rw [hW8] at HX7 HB67
      rw [hW8]
      obtain ⟨n6, hn6⟩ : ∃ m, w7.heap.size = m := ⟨_, rfl⟩
      have HN6 := Lib.hid (show W6.heap.size ≤ n6 by rw [← hn6]; exact HS7.out)
      rw [hn6] at HX7
      rw [hn6]
      clear hW8 hn6 HN7 HS7
      have v0c : W8.cell? ⟨w.heap.size, 0, none⟩ = some (.int .u16 v0) := block_cells (block_next H06.out HB67.out) 0 _ rfl
      have c1 := HX7.out.at 1 (.int .u16 0) rfl
      have f1 := HX7.out.frz 1
      have HX9 := Lib.hid (HX7.out.set (X' := skX n (upd (fun _ => 0) 1 v0) 0) 1 (.int .u16 v0) (by rfl) rfl rfl)
      have HB9 := Lib.hid (setCell_below (j := 1) HB67.out HN6.out (.int .u16 v0))
      go_upto_region 13 with fail
      obtain ⟨W9, hW9⟩ : ∃ W, W8.setCell ⟨n6, 1, none⟩ (.int .u16 v0) = W := ⟨_, rfl⟩
      rw [hW9] at HX9 HB9
      rw [hW9]
      clear hW9 v0c c1 f1 HX7 HB67
      have v1c : W9.cell? ⟨w.heap.size, 1, none⟩ = some (.int .u16 v1) := block_cells (block_next H06.out HB9.out) 1 _ rfl
      have c2 := HX9.out.at 2 (.int .u16 0) rfl
      have f2 := HX9.out.frz 2
      have HXa := Lib.hid (HX9.out.set (X' := skX n (upd (upd (fun _ => 0) 1 v0) 2 v1) 0) 2 (.int .u16 v1) (by rfl) rfl rfl)
      have HBa := Lib.hid (setCell_below (j := 2) HB9.out HN6.out (.int .u16 v1))
      go_upto_region 14 with fail
      obtain ⟨Wa, hWa⟩ : ∃ W, W9.setCell ⟨n6, 2, none⟩ (.int .u16 v1) = W := ⟨_, rfl⟩
      rw [hWa] at HXa HBa
      rw [hWa]
      clear hWa v1c c2 f2 HX9 HB9
      have c10 := HXa.out.at 10 (.int .u16 0) rfl
      have f10 := HXa.out.frz 10
      have HXb := Lib.hid (HXa.out.set (X' := skX n (upd (upd (fun _ => 0) 1 v0) 2 v1) 9) 10 (.int .u16 9) (by rfl) rfl rfl)
      have HBb := Lib.hid (setCell_below (j := 10) HBa.out HN6.out (.int .u16 9))
      go_upto_region 15 with fail
      obtain ⟨Wb, hWb⟩ : ∃ W, Wa.setCell ⟨n6, 10, none⟩ (.int .u16 9) = W := ⟨_, rfl⟩
      rw [hWb] at HXb HBb
      rw [hWb]
      clear hWb c10 f10 HXa HBa
      have hb6b : Below W6.heap.size W6 Wb := HBb.out
      have HRi := Lib.hid (show Wb.rangeAt n4 0 (imL (oneP g) (oneI 0 (skS n))) from range_next HR6.out hb6b)
      have HHasb := Lib.hid (HHas6.out.below hb6b)
      have HBwb := Lib.hid (HB6.out.trans (hb6b.mono HB6.out.size))
      have H0b := Lib.hid (block_next H06.out hb6b)
      have HXr := Lib.hid HXb.out.range
      have hrun := crun_any (oneP g) (oneI 0 (skS n)) ⟨[], []⟩ none none 0 0 (skX n (upd (upd (fun _ => 0) 1 v0) 2 v1) 9) p5 q5 c5 d5 100 Wb (oneI_ok 0 _)
        ⟨by simp, by simp, by simp, by simp⟩ (skX_ok HZ.out) HHasb.out (Sl.nil _ _).slo (Sl.nil _ _).slo HXb.out.lists (tabF_below HPos.out HTab.out HBwb.out) ⟨by decide, by decide⟩ (show (0 : Nat) + 100 ≤ 1000000000 by decide)
      obtain ⟨S9, hr9, i1, i2, i3, i4, i5, i6, i7⟩ := sk_run n (by omega) ⟨[], []⟩ v0 v1 (loadP (skX n (upd (upd (fun _ => 0) 1 v0) 2 v1) 9)) ⟨rfl, rfl, rfl, rfl, rfl, rfl, rfl, rfl⟩
      rw [show runP (oneI 0 (skS n)) ⟨[], []⟩ (Int.toNat 100) (loadP (skX n (upd (upd (fun _ => 0) 1 v0) 2 v1) 9)) = (S9, 6, 0) from hr9] at hrun
      simp only at hrun
      have HRun := Lib.hid hrun
      have Hi := Lib.hid (And.intro i1 (And.intro i2 (And.intro i3 (And.intro i4 (And.intro i5 (And.intro i6 i7))))))
      have hb47 : Tryz.prog.built 43 [] = some #[.slice none 0 0, .slice none 0 0] := by kernel_rfl
      clear hb6b hrun hr9 i1 i2 i3 i4 i5 i6 i7 HR6 HHas6 H06
      go_wp2_with (first
        | refine wpList_load_mid rfl 33 _ rfl n4 0 rfl (imL (oneP g) (oneI 0 (skS n))) _ HRi.out Tryz.underlying33 rfl infoIm ?_
        | refine wpList_load_mid rfl 40 _ rfl n6 0 rfl (snL (skX n (upd (upd (fun _ => 0) 1 v0) 2 v1) 9) p5 c5 q5 d5) _ HXr.out Tryz.underlying40 rfl infoSn ?_)
      refine HRun.out.mono ?_
      rintro e w9 ⟨⟨p9, c9, q9, d9, rfl, hs9, _, _⟩, hb9⟩
      have HZ1 := Lib.hid (heap_old _ (.cells #[.int .i64 0, .int .u16 0] 47) _ (heap_alloc_new w9 (.cells #[.int .u16 0, .int .u16 0, .int .u16 0, .int .u16 0, .int .u16 0, .int .u16 0, .int .u16 0, .int .u16 0, .int .u16 0, .int .u16 0, .int .u16 0, .int .u16 0, .int .i64 0, .int .i64 0, .int .i64 0, .int .i64 0, .string ⟨#[]⟩, .slice none 0 0, .slice none 0 0] 40)))
      have HZ2 := Lib.hid (show (((w9.alloc (.cells #[.int .u16 0, .int .u16 0, .int .u16 0, .int .u16 0, .int .u16 0, .int .u16 0, .int .u16 0, .int .u16 0, .int .u16 0, .int .u16 0, .int .u16 0, .int .u16 0, .int .i64 0, .int .i64 0, .int .i64 0, .int .i64 0, .string ⟨#[]⟩, .slice none 0 0, .slice none 0 0] 40)).alloc (.cells #[.int .i64 0, .int .u16 0] 47)).setRow w9.heap.size (snA (snapP S9) p9 c9 q9 d9)).heap[w9.heap.size + 1]? = some (.cells #[.int .i64 0, .int .u16 0] 47 (0, 0)) from by
        rw [setRow_other _ _ _ _ (by omega)]
        have h := heap_alloc_new (w9.alloc (.cells #[.int .u16 0, .int .u16 0, .int .u16 0, .int .u16 0, .int .u16 0, .int .u16 0, .int .u16 0, .int .u16 0, .int .u16 0, .int .u16 0, .int .u16 0, .int .u16 0, .int .i64 0, .int .i64 0, .int .i64 0, .int .i64 0, .string ⟨#[]⟩, .slice none 0 0, .slice none 0 0] 40)) (.cells #[.int .i64 0, .int .u16 0] 47)
        rw [World.size_alloc] at h
        exact h)
      have HBR := Lib.hid (RunBx.new (k := 6) (i := 0) (c := c9) (d := d9) hb9 hs9 #[.int .u16 0, .int .u16 0, .int .u16 0, .int .u16 0, .int .u16 0, .int .u16 0, .int .u16 0, .int .u16 0, .int .u16 0, .int .u16 0, .int .u16 0, .int .u16 0, .int .i64 0, .int .i64 0, .int .i64 0, .int .i64 0, .string ⟨#[]⟩, .slice none 0 0, .slice none 0 0] (.int .i64 0) (.int .u16 0))
      clear hs9 hb9
      unfold trapV
      go_upto_region 16 with (first
        | refine wpList_store_row rfl 40 _ _ rfl w9.heap.size (snA (snapP S9) p9 c9 q9 d9) rfl rfl 40 _ HZ1.out infoSn (by rfl) (by simp [snA, Value.oneCell']) ?_
        | refine wpList_store_row rfl 47 _ _ rfl (w9.heap.size + 1) #[.int .i64 6, .int .u16 0] rfl rfl 47 _ HZ2.out infoTr (by rfl) (by simp [Value.oneCell']) ?_)
      obtain ⟨W10, hW10⟩ : ∃ W, (((w9.alloc (.cells #[.int .u16 0, .int .u16 0, .int .u16 0, .int .u16 0, .int .u16 0, .int .u16 0, .int .u16 0, .int .u16 0, .int .u16 0, .int .u16 0, .int .u16 0, .int .u16 0, .int .i64 0, .int .i64 0, .int .i64 0, .int .i64 0, .string ⟨#[]⟩, .slice none 0 0, .slice none 0 0] 40)).alloc (.cells #[.int .i64 0, .int .u16 0] 47)).setRow w9.heap.size (snA (snapP S9) p9 c9 q9 d9)).setRow (w9.heap.size + 1) #[.int .i64 6, .int .u16 0] = W := ⟨_, rfl⟩
      rw [hW10] at HBR
      rw [hW10]
      clear hW10 HZ1 HZ2
      obtain ⟨B, hB⟩ : ∃ B, w9.heap.size = B := ⟨_, rfl⟩
      rw [hB] at HBR
      rw [hB]
      clear hB
      have t0 : W10.cell? ⟨B + 1, 0, none⟩ = some (.int .i64 6) := block_cells HBR.out.trap 0 _ rfl
      have t1 : W10.cell? ⟨B + 1, 1, none⟩ = some (.int .u16 0) := block_cells HBR.out.trap 1 _ rfl
      have y3 : W10.cell? ⟨B, 3, none⟩ = some (.int .u16 v1) := HBR.out.at 3 _ (congrArg (fun x => some (Value.int .u16 x)) Hi.out.2.1)
      have y4 : W10.cell? ⟨B, 4, none⟩ = some (.int .u16 v1) := HBR.out.at 4 _ (congrArg (fun x => some (Value.int .u16 x)) Hi.out.2.2.1)
      have y5 : W10.cell? ⟨B, 5, none⟩ = some (.int .u16 v1) := HBR.out.at 5 _ (congrArg (fun x => some (Value.int .u16 x)) Hi.out.2.2.2.1)
      have y6 : W10.cell? ⟨B, 6, none⟩ = some (.int .u16 v0) := HBR.out.at 6 _ (congrArg (fun x => some (Value.int .u16 x)) Hi.out.2.2.2.2.1)
      have y10 : W10.cell? ⟨B, 10, none⟩ = some (.int .u16 9) := HBR.out.at 10 _ (congrArg (fun x => some (Value.int .u16 x)) Hi.out.2.2.2.2.2.1)
      have y13 : W10.cell? ⟨B, 13, none⟩ = some (.int .i64 10) := HBR.out.at 13 _ (congrArg (fun x => some (Value.int .i64 x)) Hi.out.2.2.2.2.2.2)
      have y17 : W10.cell? ⟨B, 17, none⟩ = some (.slice p9 0 c9) := HBR.out.at 17 _ (by
        have h := Hi.out.1
        show some (Value.slice p9 ((List.range S9.sp).map S9.stk).length c9) = _
        rw [List.length_map, List.length_range, h])
      have v0c : W10.cell? ⟨w.heap.size, 0, none⟩ = some (.int .u16 v0) := block_cells (block_next H0b.out HBR.out.bel) 0 _ rfl
      have v1c : W10.cell? ⟨w.heap.size, 1, none⟩ = some (.int .u16 v1) := block_cells (block_next H0b.out HBR.out.bel) 1 _ rfl
      have heq := eql_tr 6 0 6 0
      simp only [and_self, decide_true] at heq
      have HBf := Lib.hid (HBwb.out.trans (HBR.out.bel.mono HBwb.out.size))
      clear HXb HBb HRi HHasb HXr HRun
      go_wp2_with fail
      go_ret
      exact ⟨rfl, HBf.out⟩
end Go.Proofs.YthkcloapiefggaaGreatDoor.cpuStack
