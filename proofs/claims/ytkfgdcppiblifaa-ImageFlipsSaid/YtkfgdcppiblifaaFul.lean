/- Contracts: slices.IndexFunc and slices.ContainsFunc over the banks. -/
import Derived.Test.YtkfgdcppiblifaaAt
namespace Go.Proofs.Ytkfgdcppiblifaa
set_option linter.unusedVariables false
set_option linter.unusedSimpArgs false
set_option maxRecDepth 100000
open Go.ChangeShapes Go.WideShapes Go.RowKit

def notF (l : List ByteArray) (n : Nat) : Bool := !decide ((bk l n).size = 4096)
def ixF (l : List ByteArray) : Int := match first (notF l) l.length with | some k => (k : Int) | none => -1
theorem full_of_none {l : List ByteArray} (h : ∀ j, j < l.length → notF l j = false) : full l = true := by
  unfold full
  rw [List.all_eq_true]
  intro b hb
  obtain ⟨n, hn, rfl⟩ := List.getElem_of_mem hb
  have := h n hn
  unfold notF at this
  have e : bk l n = l[n] := by unfold bk; simp [List.getD, hn]
  rw [e] at this
  simpa using this
theorem full_false {l : List ByteArray} {k : Nat} (hk : k < l.length) (h : notF l k = true) : full l = false := by
  cases hf : full l with
  | false => rfl
  | true => have := full_at hf hk; unfold notF at h; simp [this] at h
theorem ixF_full (l : List ByteArray) : decide (0 ≤ ixF l) = !full l := by
  unfold ixF
  cases h : first (notF l) l.length with
  | none => rw [full_of_none (first_none_iff h)]; rfl
  | some k => obtain ⟨h1, h2, _⟩ := first_lt h; rw [full_false h1 h2]; simp
set_option maxHeartbeats 1000000 in
theorem indexFunc_any (l : List ByteArray) (p : Option Addr) (c : Nat) (w : World) (hl : Sl w p (bankC l)) (hn : l.length ≤ 1000000000) (hbs : ∀ b ∈ l, b.size ≤ maxLen) :
    Calls Try.prog 76 #[.slice p l.length c, .func (.func 46) #[] #[]] w fun e w' => e = .returned (.int .i64 (ixF l)) ∧ w = w' := by
  have HL := Lib.hid hl
  have HF := Lib.hid (show ixF l = match first (notF l) l.length with | some k => (k : Int) | none => -1 from rfl)
  clear hl hbs
  go_enter Try.func76, Try.ntmps76
  go_wp2_with fail
  go_loopw [8] (fun i wr => ∃ k : Nat, k ≤ l.length ∧ i = .int .i64 k ∧ Hid (w = wr ∧ ∀ j, j < k → notF l j = false)) (fun i _ => l.length - (intOf i).toNat)
  case atStart => exact ⟨0, Nat.zero_le _, rfl, Lib.hid ⟨rfl, fun j hj => absurd hj (by omega)⟩⟩
  case round =>
    obtain ⟨k, hk, rfl, HK⟩ := hrel
    obtain ⟨hw, hk'⟩ := HK.out
    subst hw
    by_cases hlt : k < l.length
    · obtain ⟨g, hp, e0⟩ := HL.out.bank (bk_at hlt)
      subst hp
      have HN := Lib.hid (show notF l k = !decide ((bk l k).size = 4096) from rfl)
      have HC := Lib.hid (fun w => notFull_any (bk l k) w)
      obtain ⟨s, hs⟩ : ∃ s, bk l k = s := ⟨_, rfl⟩
      rw [hs] at e0 HN HC
      clear hs hk'
      cases hd : decide (s.size = 4096) with
      | true =>
        rw [hd] at HN HC
        simp only [Bool.not_true] at HN HC
        clear hd
        go_wp2_with fail
        refine (HC.out _).mono ?_
        rintro e w1 ⟨rfl, rfl⟩
        go_wp2_with fail
        go_roundw
        case rel => exact ⟨k + 1, by omega, by go_num, Lib.hid ⟨by trivial, fun j hj => by
          by_cases e : j = k
          · subst e; exact HN.out
          · exact HK.out.2 j (by omega)⟩⟩
        case measure => simp [intOf]; omega
      | false =>
        rw [hd] at HN HC
        simp only [Bool.not_false] at HN HC
        clear hd
        have HX := Lib.hid (show ixF l = k by rw [HF.out, first_some HN.out HK.out.2 hlt])
        go_wp2_with fail
        refine (HC.out _).mono ?_
        rintro e w1 ⟨rfl, rfl⟩
        go_wp2_with fail
        go_ret
        exact ⟨ret1 (by rw [HX.out]), rfl⟩
    · obtain rfl : k = l.length := by omega
      have HX := Lib.hid (show ixF l = -1 by rw [HF.out, first_none HK.out.2])
      go_wp2_with fail
      go_ret
      exact ⟨ret1 (by rw [HX.out]), rfl⟩
theorem contains_any (l : List ByteArray) (p : Option Addr) (c : Nat) (w : World) (hl : Sl w p (bankC l)) (hn : l.length ≤ 1000000000) (hbs : ∀ b ∈ l, b.size ≤ maxLen) :
    Calls Try.prog 45 #[.slice p l.length c, .func (.func 46) #[] #[]] w fun e w' => e = .returned (.bool (!full l)) ∧ w = w' := by
  have HC := Lib.hid (indexFunc_any l p c w hl hn hbs)
  have HX := Lib.hid (ixF_full l)
  clear hl hbs
  go_enter Try.func45, Try.ntmps45
  go_wp2_with fail
  refine HC.out.mono ?_
  rintro e w1 ⟨rfl, rfl⟩
  go_wp2_with fail
  go_ret
  exact ⟨retb HX.out, rfl⟩
end Go.Proofs.Ytkfgdcppiblifaa
