/- A call that hands back one value and leaves the world as it was may be taken first in a region that draws its order. -/
import Derived.Test.YtkfgdcppiblifaaCells
import Derived.Deep.RegionHeld3
namespace Go.Proofs.Ytkfgdcppiblifaa
set_option linter.unusedVariables false
set_option linter.unusedSimpArgs false

section
variable {P : Program} {ops : Array Oper} {Q : Exit → Act → World → Prop} {md : Region.Mode} {S : World → Prop}

/-- In this state the operation is a call of f with these arguments, whatever the world. -/
structure CallsAt (P : Program) (ops : Array Oper) (o : Oper) (f : Nat) (args : Array Value) (a : Act) : Prop where
  wanted : Region.wanted o (yielded ops a.tmps) = true
  enters : ∀ w, (execOp a.eval o).run P w = .ok (.enter f args) w
theorem CallsAt.put {o : Oper} {f : Nat} {args : Array Value} {a : Act} (h : CallsAt P ops o f args a) (hs : ∀ cs b, o.op ≠ .select cs b) {x : Option Tmp} (hx : ∀ d, x = some d → d ∉ o.looksAt ops) (u : Value) : CallsAt P ops o f args (a.put x u) :=
  ⟨(wanted_put o a x u hx).trans h.wanted, fun w => by rw [execOp_put o hs a x u hx]; exact h.enters w⟩
theorem call_runs {i : Nat} {o : Oper} {f : Nat} {args : Array Value} {v : Value} {a : Act} {w : World} {K : Act → World → Prop} (hi : ops[i]? = some o) (h : CallsAt P ops o f args a) (hc : ∀ w, S w → Calls P f args w fun e w' => e = .returned v ∧ w = w')
    (hS : S w) (hk : K (a.put o.dst v) w) : wpOp P ops Q i K a w := by
  unfold wpOp
  rw [hi]
  show (if _ then _ else _)
  rw [if_pos h.wanted]
  refine Or.inl ?_
  unfold Oper.wp
  rw [h.enters w]
  refine (hc w hS).mono ?_
  rintro e w' ⟨rfl, rfl⟩
  exact hk
theorem call_apart {j : Nat} {oi oj : Oper} {f : Nat} {args : Array Value} {v : Value} {a : Act} {w : World} {K : Act → World → Prop} (hj : ops[j]? = some oj) (hap : oi.apart ops oj = true)
    (hsi : ∀ cs b, oi.op ≠ .select cs b) (hsj : ∀ cs b, oj.op ≠ .select cs b) (hQ : ∀ c a w, Q (.panic c) (a.put oi.dst v) w → Q (.panic c) a w)
    (hy : CallsAt P ops oi f args a) (h : wpOp P ops Q j K (a.put oi.dst v) w) : wpOp P ops Q j (fun a' w' => CallsAt P ops oi f args a' ∧ K (a'.put oi.dst v) w') a w := by
  obtain ⟨h1, h2, h3⟩ := Oper.apart_spec hap
  have eE := execOp_put oj hsj a oi.dst v h1
  have eW := wanted_put oj a oi.dst v h1
  have keep : ∀ u, CallsAt P ops oi f args (a.put oj.dst u) := fun u => hy.put hsi h3 u
  have comm : ∀ u, (a.put oi.dst v).put oj.dst u = (a.put oj.dst u).put oi.dst v := fun u => Act.put_comm a v u h2
  unfold wpOp at h ⊢
  rw [hj] at h ⊢
  simp only [eW] at h ⊢
  by_cases hw : Region.wanted oj (yielded ops a.tmps) = true
  · rw [if_pos hw] at h ⊢
    rcases h with h | ⟨ha, hl⟩
    · refine Or.inl ?_
      unfold Oper.wp at h ⊢
      rw [eE] at h
      revert h
      generalize (execOp a.eval oj).run P w = r
      intro h
      rcases r with ⟨n, w'⟩ | ⟨x, w'⟩
      · cases n with
        | value u => exact ⟨keep u, comm u ▸ h⟩
        | skip => exact ⟨keep _, comm _ ▸ h⟩
        | defer d =>
          have hk : CallsAt P ops oi f args (({ a with defers := d :: a.defers } : Act).put oj.dst undef) := CallsAt.put (a := { a with defers := d :: a.defers }) ⟨hy.wanted, hy.enters⟩ hsi h3 _
          refine ⟨hk, ?_⟩
          simp only [Oper.upon] at h
          rw [Act.put_defers, Act.put_comm _ v undef h2] at h
          exact h
        | enter g bs =>
          refine Calls.mono h fun e w'' he => ?_
          cases e with
          | returned u => exact ⟨keep u, comm u ▸ he⟩
          | panicked c => exact hQ _ _ _ he
          | outgrown => exact he
        | row g bs => exact Rows.mono h fun u w'' he => ⟨keep u, comm u ▸ he⟩
        | _ => exact h
      · cases x with
        | panic u => exact hQ _ _ _ h
        | _ => exact h
    · exact Or.inr ⟨by unfold Oper.asks at ha ⊢; rwa [eE] at ha, hl⟩
  · rw [if_neg hw] at h ⊢
    exact ⟨keep _, comm _ ▸ h⟩
/-- The call that leaves the world as it was is taken first. -/
theorem wpAnyH_call_at {i : Nat} {oi : Oper} {f : Nat} {args : Array Value} {v : Value} (hi : ops[i]? = some oi) (hsel : ∀ (j : Nat) (o : Oper) cs b, ops[j]? = some o → o.op ≠ .select cs b)
    (hQ : ∀ c a w, Q (.panic c) (a.put oi.dst v) w → Q (.panic c) a w) (hc : ∀ w, S w → Calls P f args w fun e w' => e = .returned v ∧ w = w') :
    ∀ (fuel : Nat) (listed : Array Bool) (a : Act) (w : World),
      (∀ j oj, ops[j]? = some oj → j ≠ i → listed.getD j true = false → (∀ e ∈ oj.after, Region.binds md e = true → e.on ≠ i) → oi.apart ops oj = true) →
      i ∈ Region.ready md ops listed → CallsAt P ops oi f args a → S w →
      wpAnyH P md ops Q S fuel (listed.setIfInBounds i true) (a.put oi.dst v) w → wpAnyH P md ops Q S (fuel + 1) listed a w := by
  intro fuel
  induction fuel with
  | zero =>
    intro listed a w _ hr hy hS H
    constructor
    · intro e; rw [e] at hr; cases hr
    · intro j hj
      by_cases hji : j = i
      · subst hji; exact call_runs hi hy hc hS ⟨hS, H⟩
      · have := ready_mono hj hji
        rw [H.1] at this
        cases this
  | succ fuel ih =>
    intro listed a w hfree hr hy hS H
    constructor
    · intro e; rw [e] at hr; cases hr
    · intro j hj
      by_cases hji : j = i
      · subst hji; exact call_runs hi hy hc hS ⟨hS, H⟩
      · obtain ⟨hjun, oj, hoj, hall⟩ := mem_ready.1 hj
        have hiun := (mem_ready.1 hr).1
        have hnot : ∀ e ∈ oj.after, Region.binds md e = true → e.on ≠ i := by
          intro e he hb heq
          have h1 := hall e he hb
          rw [heq] at h1
          by_cases hlt : i < listed.size
          · simp [hlt] at hiun h1
            rw [hiun] at h1
            cases h1
          · simp [Array.getElem?_eq_none (Nat.le_of_not_lt hlt)] at h1
        have h2 := call_apart hoj (hfree j oj hoj hji hjun hnot) (fun cs b => hsel i oi cs b hi) (fun cs b => hsel j oj cs b hoj) hQ hy (H.2 j (ready_mono hj hji))
        refine wpOp_mono (fun a' w' h3 => ⟨h3.2.1, ih (listed.setIfInBounds j true) a' w' ?_ (ready_mono hr (Ne.symm hji)) h3.1 h3.2.1 ?_⟩) h2
        · intro k ok hk hki hun hno
          refine hfree k ok hk hki ?_ hno
          by_cases hjk : j = k
          · subst hjk; exact hjun
          · rwa [getD_set_ne true hjk] at hun
        · rw [Array.setIfInBounds_comm _ _ hji]
          exact h3.2.2
theorem wpAnyH_call {i : Nat} {oi : Oper} (f : Nat) (args : Array Value) (v : Value) {fuel : Nat} {listed : Array Bool} {a : Act} {w : World} (hi : ops[i]? = some oi)
    (hs : Region.noSelect ops = true) (hf : Region.free md ops listed i = true) (hr : (Region.ready md ops listed).contains i = true)
    (hQ : ∀ c a w, Q (.panic c) (a.put oi.dst v) w → Q (.panic c) a w) (hw : Region.wanted oi (yielded ops a.tmps) = true) (he : ∀ w, (execOp a.eval oi).run P w = .ok (.enter f args) w)
    (hc : ∀ w, S w → Calls P f args w fun e w' => e = .returned v ∧ w = w') (hS : S w)
    (h : wpAnyH P md ops Q S fuel (listed.setIfInBounds i true) (a.put oi.dst v) w) : wpAnyH P md ops Q S (fuel + 1) listed a w :=
  wpAnyH_call_at hi (Region.noSelect_spec hs) hQ hc fuel listed a w (Region.free_spec hi hf) (by simpa using hr) ⟨hw, he⟩ hS h
end
end Go.Proofs.Ytkfgdcppiblifaa
