/- A word in hexadecimal, by the library's own text. -/
import Derived.Test.YtdobfmpepjnikaaDoorTabs
import Derived.Test.YtdobfmpepjnikaaDoorSmall
import Derived.LoopN
import Derived.Laws.BitsAll
namespace Go.Proofs.YtdobfmpepjnikaaDoor
set_option linter.unusedVariables false
set_option linter.unusedSimpArgs false
set_option maxRecDepth 100000
open Go.ChangeShapes Go.WideShapes Go.RowKit

theorem isPow2_16 (w : World) : Calls Tryd.prog 87 #[.int .i64 16] w fun e w' => e = .returned (.bool true) ∧ w = w' := by
  have h : bits .and .i64 16 15 = 0 := by decide +kernel
  go_enter Tryd.func87, Tryd.ntmps87
  go_wp2_with fail
  go_ret
  exact ⟨rfl, rfl⟩
theorem tz64_16 (w : World) (ht : TabC 5 tab64 w) : Calls Tryd.prog 91 #[.int .u64 16] w fun e w' => e = .returned (.int .i64 4) ∧ w = w' := by
  have hc := (ht.cell 15).trans (show tab64[15]? = some (.int .u8 4) by kernel_rfl)
  clear ht
  have e1 : bits .and .u64 16 (IntKind.u64.wrap (-16)) = 16 := by decide +kernel
  have e2 : IntKind.u64.wrap (16 * 285870213051353865) / 288230376151711744 = 15 := by decide +kernel
  have e3 : IntKind.u64.wrap 4573923408821661840 / 288230376151711744 = 15 := by decide +kernel
  go_enter Tryd.func91, Tryd.ntmps91
  go_wp2_with fail
  go_ret
  exact ⟨rfl, rfl⟩
theorem tz_16 (w : World) (ht : TabC 5 tab64 w) : Calls Tryd.prog 88 #[.int .u64 16] w fun e w' => e = .returned (.int .i64 4) ∧ w = w' := by
  go_enter Tryd.func88, Tryd.ntmps88
  go_wp2_with (go_at_call 91; refine (tz64_16 _ ht).mono ?_; rintro e w' ⟨rfl, rfl⟩)
  go_ret
  exact ⟨rfl, rfl⟩

/-- The digit of a number below 16. -/
def hx (d : Int) : Int := if d < 10 then 48 + d else 87 + d
def digs : ByteArray := ⟨#[48, 49, 50, 51, 52, 53, 54, 55, 56, 57, 97, 98, 99, 100, 101, 102, 103, 104, 105, 106, 107, 108, 109, 110, 111, 112, 113, 114, 115, 116, 117, 118, 119, 120, 121, 122]⟩
theorem dig_index (d : Int) (d0 : 0 ≤ d) (d1 : d < 16) (w : World) :
    (Instr.index 9 (.string ⟨#[48, 49, 50, 51, 52, 53, 54, 55, 56, 57, 97, 98, 99, 100, 101, 102, 103, 104, 105, 106, 107, 108, 109, 110, 111, 112, 113, 114, 115, 116, 117, 118, 119, 120, 121, 122]⟩) (.int .u64 d)).run Tryd.prog w = .ok (.int .u8 (hx d)) w := by
  rcases (show d = 0 ∨ d = 1 ∨ d = 2 ∨ d = 3 ∨ d = 4 ∨ d = 5 ∨ d = 6 ∨ d = 7 ∨ d = 8 ∨ d = 9 ∨ d = 10 ∨ d = 11 ∨ d = 12 ∨ d = 13 ∨ d = 14 ∨ d = 15 by omega) with rfl | rfl | rfl | rfl | rfl | rfl | rfl | rfl | rfl | rfl | rfl | rfl | rfl | rfl | rfl | rfl <;> kernel_rfl
theorem conv_at (W : World) (b o c : Nat) (l : List Int) (h : ∀ j n, l[j]? = some n → W.cell? ⟨b, o + j, none⟩ = some (.int .u8 n)) :
    (convert 36 9 (.slice (some ⟨b, o, none⟩) l.length c)).run Tryd.prog W = .ok (.string (strB l)) W := by
  rw [run_convert_bytes_string _ 36 9 5 _ _ _ Tryd.underlying36 Tryd.underlying5 Tryd.underlying9]
  have hl : (bcells l).length = l.length := by simp [bcells]
  rw [run_bytesToString _ _ _ _ l (by
    rw [← hl]
    refine run_loadCells_list _ _ (bcells l) fun j v hj => ?_
    simp only [bcells, List.getElem?_map, Option.map_eq_some_iff] at hj
    obtain ⟨n, hn, rfl⟩ := hj
    have hh := h j n hn
    by_cases h0 : j = 0
    · subst h0; simpa [Addr.add] using hh
    · simpa [Addr.add, h0] using hh)]
  rfl
theorem and15 (u : Int) (h0 : 0 ≤ u) (h1 : u < 18446744073709551616) : bits .and .u64 u 15 = u % 16 := by
  rw [u64_and u 15 h0 h1 (by omega) (by omega)]
  have e : u.toNat &&& 15 = u.toNat % 16 := nat_mask4 _
  simp only [Int.reduceToNat, e]; omega
theorem zc_size : Tryd.zeroCells127.size = 65 := by kernel_rfl
theorem cells_1 (u : Int) (w : World) : ∀ j n, ([hx (u)] : List Int)[j]? = some n → (w.alloc (.cells (Tryd.zeroCells127.setIfInBounds 64 (.int .u8 (hx (u)))) 127)).cell? ⟨w.heap.size, 64 + j, none⟩ = some (.int .u8 n) := by
  intro j n h
  have hz := zc_size
  match j, h with
  | 0, h => simp at h; subst h; simp [hz]
set_option maxHeartbeats 1000000 in
theorem formatBits_1 (u : Int) (w : World) (u0 : 0 ≤ u) (u1 : u < 16) (ht : TabC 5 tab64 w) :
    Calls Tryd.prog 79 #[.slice none 0 0, .int .u64 u, .int .i64 16, .bool false, .bool false] w fun e w' => e = .returned (.tuple #[.slice none 0 0, .string (strB [hx (u)])]) ∧ Below w.heap.size w w' := by
  have hT := ht
  have h5 := ht.lt
  have hcv := conv_at _ w.heap.size 64 1 _ (cells_1 u w)
  simp only [List.length_cons, List.length_nil, Nat.reduceAdd] at hcv
  have d1 := dig_index (u) (by omega) (by omega)
  go_enter Tryd.func79, Tryd.ntmps79
  go_wp2_with (first | (go_at_call 87; refine (isPow2_16 _).mono ?_; rintro e w' ⟨rfl, rfl⟩) | (go_at_call 88; refine (tz_16 _ (ht.below h5 ((Below.refl _ _).alloc (Nat.le_refl _) _))).mono ?_; rintro e w' ⟨rfl, rfl⟩))
  refine wp_loop_rounds 1 ?_
  rw [rounds_succ]
  go_wp2_with fail
  go_ret2
  exact ⟨rfl, (Below.refl _ _).alloc (Nat.le_refl _) _⟩
theorem cells_2 (u : Int) (w : World) : ∀ j n, ([hx (u / 16), hx (u % 16)] : List Int)[j]? = some n → (w.alloc (.cells ((Tryd.zeroCells127.setIfInBounds 64 (.int .u8 (hx (u % 16)))).setIfInBounds 63 (.int .u8 (hx (u / 16)))) 127)).cell? ⟨w.heap.size, 63 + j, none⟩ = some (.int .u8 n) := by
  intro j n h
  have hz := zc_size
  match j, h with
  | 0, h => simp at h; subst h; simp [hz]
  | 1, h => simp at h; subst h; simp [hz]
set_option maxHeartbeats 1000000 in
theorem formatBits_2 (u : Int) (w : World) (u0 : 16 ≤ u) (u1 : u < 256) (ht : TabC 5 tab64 w) :
    Calls Tryd.prog 79 #[.slice none 0 0, .int .u64 u, .int .i64 16, .bool false, .bool false] w fun e w' => e = .returned (.tuple #[.slice none 0 0, .string (strB [hx (u / 16), hx (u % 16)])]) ∧ Below w.heap.size w w' := by
  have hT := ht
  have h5 := ht.lt
  have hcv := conv_at _ w.heap.size 63 2 _ (cells_2 u w)
  simp only [List.length_cons, List.length_nil, Nat.reduceAdd] at hcv
  have a1 := and15 (u) (by omega) (by omega)
  have d1 := dig_index (u % 16) (by omega) (by omega)
  have d2 := dig_index (u / 16) (by omega) (by omega)
  go_enter Tryd.func79, Tryd.ntmps79
  go_wp2_with (first | (go_at_call 87; refine (isPow2_16 _).mono ?_; rintro e w' ⟨rfl, rfl⟩) | (go_at_call 88; refine (tz_16 _ (ht.below h5 ((Below.refl _ _).alloc (Nat.le_refl _) _))).mono ?_; rintro e w' ⟨rfl, rfl⟩))
  refine wp_loop_rounds 2 ?_
  rw [rounds_succ]
  go_wp2_with fail
  rw [rounds_succ]
  go_wp2_with fail
  go_ret2
  exact ⟨rfl, (Below.refl _ _).alloc (Nat.le_refl _) _⟩
theorem cells_3 (u : Int) (w : World) : ∀ j n, ([hx (u / 16 / 16), hx (u / 16 % 16), hx (u % 16)] : List Int)[j]? = some n → (w.alloc (.cells (((Tryd.zeroCells127.setIfInBounds 64 (.int .u8 (hx (u % 16)))).setIfInBounds 63 (.int .u8 (hx (u / 16 % 16)))).setIfInBounds 62 (.int .u8 (hx (u / 16 / 16)))) 127)).cell? ⟨w.heap.size, 62 + j, none⟩ = some (.int .u8 n) := by
  intro j n h
  have hz := zc_size
  match j, h with
  | 0, h => simp at h; subst h; simp [hz]
  | 1, h => simp at h; subst h; simp [hz]
  | 2, h => simp at h; subst h; simp [hz]
set_option maxHeartbeats 1000000 in
theorem formatBits_3 (u : Int) (w : World) (u0 : 256 ≤ u) (u1 : u < 4096) (ht : TabC 5 tab64 w) :
    Calls Tryd.prog 79 #[.slice none 0 0, .int .u64 u, .int .i64 16, .bool false, .bool false] w fun e w' => e = .returned (.tuple #[.slice none 0 0, .string (strB [hx (u / 16 / 16), hx (u / 16 % 16), hx (u % 16)])]) ∧ Below w.heap.size w w' := by
  have hT := ht
  have h5 := ht.lt
  have hcv := conv_at _ w.heap.size 62 3 _ (cells_3 u w)
  simp only [List.length_cons, List.length_nil, Nat.reduceAdd] at hcv
  have a1 := and15 (u) (by omega) (by omega)
  have a2 := and15 (u / 16) (by omega) (by omega)
  have d1 := dig_index (u % 16) (by omega) (by omega)
  have d2 := dig_index (u / 16 % 16) (by omega) (by omega)
  have d3 := dig_index (u / 16 / 16) (by omega) (by omega)
  go_enter Tryd.func79, Tryd.ntmps79
  go_wp2_with (first | (go_at_call 87; refine (isPow2_16 _).mono ?_; rintro e w' ⟨rfl, rfl⟩) | (go_at_call 88; refine (tz_16 _ (ht.below h5 ((Below.refl _ _).alloc (Nat.le_refl _) _))).mono ?_; rintro e w' ⟨rfl, rfl⟩))
  refine wp_loop_rounds 3 ?_
  rw [rounds_succ]
  go_wp2_with fail
  rw [rounds_succ]
  go_wp2_with fail
  rw [rounds_succ]
  go_wp2_with fail
  go_ret2
  exact ⟨rfl, (Below.refl _ _).alloc (Nat.le_refl _) _⟩
theorem cells_4 (u : Int) (w : World) : ∀ j n, ([hx (u / 16 / 16 / 16), hx (u / 16 / 16 % 16), hx (u / 16 % 16), hx (u % 16)] : List Int)[j]? = some n → (w.alloc (.cells ((((Tryd.zeroCells127.setIfInBounds 64 (.int .u8 (hx (u % 16)))).setIfInBounds 63 (.int .u8 (hx (u / 16 % 16)))).setIfInBounds 62 (.int .u8 (hx (u / 16 / 16 % 16)))).setIfInBounds 61 (.int .u8 (hx (u / 16 / 16 / 16)))) 127)).cell? ⟨w.heap.size, 61 + j, none⟩ = some (.int .u8 n) := by
  intro j n h
  have hz := zc_size
  match j, h with
  | 0, h => simp at h; subst h; simp [hz]
  | 1, h => simp at h; subst h; simp [hz]
  | 2, h => simp at h; subst h; simp [hz]
  | 3, h => simp at h; subst h; simp [hz]
set_option maxHeartbeats 1000000 in
theorem formatBits_4 (u : Int) (w : World) (u0 : 4096 ≤ u) (u1 : u < 65536) (ht : TabC 5 tab64 w) :
    Calls Tryd.prog 79 #[.slice none 0 0, .int .u64 u, .int .i64 16, .bool false, .bool false] w fun e w' => e = .returned (.tuple #[.slice none 0 0, .string (strB [hx (u / 16 / 16 / 16), hx (u / 16 / 16 % 16), hx (u / 16 % 16), hx (u % 16)])]) ∧ Below w.heap.size w w' := by
  have hT := ht
  have h5 := ht.lt
  have hcv := conv_at _ w.heap.size 61 4 _ (cells_4 u w)
  simp only [List.length_cons, List.length_nil, Nat.reduceAdd] at hcv
  have a1 := and15 (u) (by omega) (by omega)
  have a2 := and15 (u / 16) (by omega) (by omega)
  have a3 := and15 (u / 16 / 16) (by omega) (by omega)
  have d1 := dig_index (u % 16) (by omega) (by omega)
  have d2 := dig_index (u / 16 % 16) (by omega) (by omega)
  have d3 := dig_index (u / 16 / 16 % 16) (by omega) (by omega)
  have d4 := dig_index (u / 16 / 16 / 16) (by omega) (by omega)
  go_enter Tryd.func79, Tryd.ntmps79
  go_wp2_with (first | (go_at_call 87; refine (isPow2_16 _).mono ?_; rintro e w' ⟨rfl, rfl⟩) | (go_at_call 88; refine (tz_16 _ (ht.below h5 ((Below.refl _ _).alloc (Nat.le_refl _) _))).mono ?_; rintro e w' ⟨rfl, rfl⟩))
  refine wp_loop_rounds 4 ?_
  rw [rounds_succ]
  go_wp2_with fail
  rw [rounds_succ]
  go_wp2_with fail
  rw [rounds_succ]
  go_wp2_with fail
  rw [rounds_succ]
  go_wp2_with fail
  go_ret2
  exact ⟨rfl, (Below.refl _ _).alloc (Nat.le_refl _) _⟩
/-- A word in hexadecimal, without leading zeros. -/
def hexL (u : Int) : List Int := if u < 16 then [hx u] else if u < 256 then [hx (u / 16), hx (u % 16)] else if u < 4096 then [hx (u / 16 / 16), hx (u / 16 % 16), hx (u % 16)] else [hx (u / 16 / 16 / 16), hx (u / 16 / 16 % 16), hx (u / 16 % 16), hx (u % 16)]
theorem formatBits_any (u : Int) (w : World) (u0 : 0 ≤ u) (u1 : u < 65536) (ht : TabC 5 tab64 w) :
    Calls Tryd.prog 79 #[.slice none 0 0, .int .u64 u, .int .i64 16, .bool false, .bool false] w fun e w' => e = .returned (.tuple #[.slice none 0 0, .string (strB (hexL u))]) ∧ Below w.heap.size w w' := by
  unfold hexL
  by_cases h1 : u < 16
  · rw [if_pos h1]; exact formatBits_1 u w u0 h1 ht
  rw [if_neg h1]
  by_cases h2 : u < 256
  · rw [if_pos h2]; exact formatBits_2 u w (by omega) h2 ht
  rw [if_neg h2]
  by_cases h3 : u < 4096
  · rw [if_pos h3]; exact formatBits_3 u w (by omega) h3 ht
  rw [if_neg h3]
  exact formatBits_4 u w (by omega) u1 ht
theorem formatUint_in (u : Int) (w : World) (u0 : 0 ≤ u) (u1 : u < 65536) (ht : TabC 5 tab64 w) :
    Calls Tryd.prog 71 #[.int .u64 u, .int .i64 16] w fun e w' => e = .returned (.string (strB (hexL u))) ∧ Below w.heap.size w w' := by
  go_enter Tryd.func71, Tryd.ntmps71
  go_wp2_with fail
  refine (formatBits_any u _ u0 u1 ht).mono ?_
  rintro e w' ⟨rfl, hb⟩
  go_wp2_with fail
  go_ret
  exact ⟨rfl, hb⟩
theorem formatUint_16 (u : Int) (w : World) (u0 : 0 ≤ u) (u1 : u < 65536) (ht : TabC 5 tab64 w) :
    Calls Tryd.prog 68 #[.int .u64 u, .int .i64 16] w fun e w' => e = .returned (.string (strB (hexL u))) ∧ Below w.heap.size w w' := by
  go_enter Tryd.func68, Tryd.ntmps68
  go_wp2_with fail
  refine (formatUint_in u _ u0 u1 ht).mono ?_
  rintro e w' ⟨rfl, hb⟩
  go_wp2_with fail
  go_ret
  exact ⟨rfl, hb⟩
/-- A word as '0x' and four hexadecimal digits. -/
def addrL (u : Int) : List Int := [48, 120, hx (u / 16 / 16 / 16), hx (u / 16 / 16 % 16), hx (u / 16 % 16), hx (u % 16)]
theorem hexL_len (u : Int) (u0 : 0 ≤ u) : (hexL u).length = (if u < 16 then 1 else if u < 256 then 2 else if u < 4096 then 3 else 4) := by
  unfold hexL; (repeat' split) <;> rfl
theorem strB_append (a b : List Int) : strB (a ++ b) = strB a ++ strB b := by
  apply ByteArray.ext
  apply Array.ext'
  rw [strB_data, ByteArray.data_append, Array.toList_append, strB_data, strB_data, List.map_append]
theorem retS {a b : ByteArray} (h : a = b) : Ending.returned (.string a) = .returned (.string b) := by rw [h]
theorem addr_close (u : Int) (c : Nat) (u0 : 0 ≤ u) (hc : (hexL u).length + c = 4) : (⟨#[48, 120]⟩ : ByteArray) ++ ⟨(Lib.repeatL [48] c).toArray⟩ ++ strB (hexL u) = strB (addrL u) := by
  have h0 : hx 0 = 48 := by decide
  have e0 : ∀ a : ByteArray, a = strB (a.data.toList.map fun b => (b.toNat : Int)) := by
    intro a
    apply ByteArray.ext
    apply Array.ext'
    rw [strB_data, List.map_map]
    conv => lhs; rw [← List.map_id a.data.toList]
    apply List.map_congr_left
    intro x _
    simp
  rw [e0 ⟨#[48, 120]⟩, e0 ⟨(Lib.repeatL [48] c).toArray⟩, ← strB_append, ← strB_append]
  congr 1
  have hl := hexL_len u u0
  unfold hexL at hc ⊢
  unfold addrL
  by_cases h1 : u < 16
  · rw [if_pos h1] at hl
    simp only [if_pos h1] at hc ⊢
    obtain rfl : c = 3 := by simp at hc; omega
    have a1 : u / 16 / 16 / 16 = 0 := by omega
    have a2 : u / 16 / 16 % 16 = 0 := by omega
    have a3 : u / 16 % 16 = 0 := by omega
    have a4 : u % 16 = u := by omega
    rw [a1, a2, a3, a4, h0]; rfl
  simp only [if_neg h1] at hc ⊢
  by_cases h2 : u < 256
  · simp only [if_pos h2] at hc ⊢
    obtain rfl : c = 2 := by simp at hc; omega
    have a1 : u / 16 / 16 / 16 = 0 := by omega
    have a2 : u / 16 / 16 % 16 = 0 := by omega
    have a3 : u / 16 % 16 = u / 16 := by omega
    rw [a1, a2, a3, h0]; rfl
  simp only [if_neg h2] at hc ⊢
  by_cases h3 : u < 4096
  · simp only [if_pos h3] at hc ⊢
    obtain rfl : c = 1 := by simp at hc; omega
    have a1 : u / 16 / 16 / 16 = 0 := by omega
    have a2 : u / 16 / 16 % 16 = u / 16 / 16 := by omega
    rw [a1, a2, h0]; rfl
  simp only [if_neg h3] at hc ⊢
  obtain rfl : c = 0 := by simp at hc; omega
  rfl
theorem address_any (u : Int) (w : World) (u0 : 0 ≤ u) (u1 : u < 65536) (ht : TabC 5 tab64 w) :
    Calls Tryd.prog 65 #[.int .u16 u] w fun e w' => e = .returned (.string (strB (addrL u))) ∧ Below w.heap.size w w' := by
  go_enter Tryd.func65, Tryd.ntmps65
  go_wp2_with fail
  refine (formatUint_16 u _ u0 u1 ht).mono ?_
  rintro e w1 ⟨rfl, hb⟩
  obtain ⟨c, hc, hc4⟩ : ∃ c : Nat, (hexL u).length + c = 4 ∧ c ≤ 3 := ⟨4 - (hexL u).length, by have := hexL_len u u0; (repeat' split at this) <;> omega, by have := hexL_len u u0; (repeat' split at this) <;> omega⟩
  have HW : Hid (4 - ((strB (hexL u)).size : Int) = c) := Lib.hid (by rw [strB_size]; omega)
  have HC := Lib.hid (addr_close u c u0 hc)
  have hH : (strB (hexL u)).size ≤ 4 := by rw [strB_size]; omega
  have HRz := Lib.hid (show (⟨(Lib.repeatL [48] c).toArray⟩ : ByteArray).size ≤ 4 by show (Lib.repeatL [48] c).length ≤ 4; rw [Lib.repeatL_length]; simp; omega)
  have HR := Lib.hid (fun w => Tryd.strings_Repeat ⟨#[48]⟩ c w (by omega) (by show 1 * c ≤ _; omega))
  obtain ⟨R, hR⟩ : ∃ R : ByteArray, ⟨(Lib.repeatL [48] c).toArray⟩ = R := ⟨_, rfl⟩
  rw [show (Lib.repeatL (ByteArray.data ⟨#[48]⟩).toList c) = Lib.repeatL [48] c from rfl, hR] at HR
  rw [hR] at HC HRz
  have hRz := HRz.out
  obtain ⟨H, hH'⟩ : ∃ H, strB (hexL u) = H := ⟨_, rfl⟩
  rw [hH'] at HW HC hH
  rw [hH']
  clear hc hR hH'
  go_wp2_with fail
  rw [HW.out]
  refine (HR.out _).mono ?_
  rintro e w2 ⟨rfl, hb2⟩
  go_wp2_with fail
  go_ret
  exact ⟨retS HC.out, hb.trans (hb2.mono hb.size)⟩
end Go.Proofs.YtdobfmpepjnikaaDoor
