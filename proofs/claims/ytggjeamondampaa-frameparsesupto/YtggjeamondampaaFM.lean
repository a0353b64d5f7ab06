/- Eliciting, Allowed. -/
import Derived.Test.YtggjeamondampaaFG
namespace Go.Proofs.Ytggjeamondampaa
open Go.RowKit
set_option linter.unusedVariables false
set_option maxRecDepth 100000
set_option maxHeartbeats 2000000

def elicF (k : Int) : Bool := if k = 0 ∨ k = 2 ∨ k = 28 then false else isKindF k
def allowF (s k : Int) (own : Bool) : Bool := if s = 2 then isKindF k else if s = 0 ∨ s = 1 then (if k = 0 ∨ k = 1 ∨ k = 2 ∨ k = 6 then true else if k = 28 then !own else false) else false

theorem beq_no {k c : Int} (h : ¬ k = c) : (k == c) = false := by simpa using h
theorem beq_yes {k c : Int} (h : k = c) : (k == c) = true := by simpa using h

theorem eliciting_any (f : Fr) (d r : Value) (w : World) : Calls Try.prog 37 #[f.val d r] w fun e w' => e = .returned (.bool (elicF f.kind)) ∧ w.grownBy w' none := by
  have g0 := World.grownBy_alloc w (.cells (f.cs d r) 26) none
  rcases Classical.em (f.kind = 0) with h | h0
  · have e : elicF f.kind = false := by unfold elicF; rw [if_pos (.inl h)]
    rw [e]
    have t0 := beq_yes h
    clear e h
    go_enter Try.func37, Try.ntmps37
    go_wp2
    go_ret
    exact ⟨rfl, g0⟩
  rcases Classical.em (f.kind = 2) with h | h2
  · have e : elicF f.kind = false := by unfold elicF; rw [if_pos (.inr (.inl h))]
    rw [e]
    have t0 := beq_no h0
    have t2 := beq_yes h
    clear e h h0
    go_enter Try.func37, Try.ntmps37
    go_wp2
    go_ret
    exact ⟨rfl, g0⟩
  rcases Classical.em (f.kind = 28) with h | h28
  · have e : elicF f.kind = false := by unfold elicF; rw [if_pos (.inr (.inr h))]
    rw [e]
    have t0 := beq_no h0
    have t2 := beq_no h2
    have t28 := beq_yes h
    clear e h h0 h2
    go_enter Try.func37, Try.ntmps37
    go_wp2
    go_ret
    exact ⟨rfl, g0⟩
  · have e : elicF f.kind = isKindF f.kind := by unfold elicF; rw [if_neg (by omega)]
    rw [e]
    have t0 := beq_no h0
    have t2 := beq_no h2
    have t28 := beq_no h28
    have hk := isKind_any f.kind
    clear e h0 h2 h28
    generalize isKindF f.kind = kk at *
    go_enter Try.func37, Try.ntmps37
    go_wp2_with (first | (go_at_call 61; refine (hk _).mono ?_; rintro e W1 ⟨rfl, g1⟩))
    go_ret
    exact ⟨rfl, g0.trans g1⟩

theorem allowed_any (s : Int) (f : Fr) (d r : Value) (w : World) : Calls Try.prog 38 #[.int .i64 s, f.val d r] w fun e w' => e = .returned (.bool (allowF s f.kind f.own)) ∧ w.grownBy w' none := by
  have g0 := World.grownBy_alloc w (.cells (f.cs d r) 26) none
  rcases Classical.em (s = 2) with h | h2
  · have e : allowF s f.kind f.own = isKindF f.kind := by unfold allowF; rw [if_pos h]
    rw [e]
    have t2 := beq_yes h
    have hk := isKind_any f.kind
    clear e h
    generalize isKindF f.kind = kk at *
    go_enter Try.func38, Try.ntmps38
    go_wp2_with (first | (go_at_call 61; refine (hk _).mono ?_; rintro e W1 ⟨rfl, g1⟩))
    go_ret
    exact ⟨rfl, g0.trans g1⟩
  have t2 := beq_no h2
  rcases Classical.em (s = 0 ∨ s = 1) with h | h
  · have e : allowF s f.kind f.own = (if f.kind = 0 ∨ f.kind = 1 ∨ f.kind = 2 ∨ f.kind = 6 then true else if f.kind = 28 then !f.own else false) := by unfold allowF; rw [if_neg h2, if_pos h]
    rw [e]
    clear e
    have hs : ((s == 0) = true) ∨ ((s == 0) = false ∧ (s == 1) = true) := by
      rcases h with h | h
      · exact .inl (beq_yes h)
      · exact .inr ⟨beq_no (by omega), beq_yes h⟩
    have hkk : (f.kind = 0) ∨ (¬ f.kind = 0 ∧ f.kind = 1) ∨ (¬ f.kind = 0 ∧ ¬ f.kind = 1 ∧ f.kind = 2) ∨ (¬ f.kind = 0 ∧ ¬ f.kind = 1 ∧ ¬ f.kind = 2 ∧ f.kind = 6) ∨ (¬ f.kind = 0 ∧ ¬ f.kind = 1 ∧ ¬ f.kind = 2 ∧ ¬ f.kind = 6) := by omega
    clear h h2
    rcases hs with s0 | ⟨s0, s1⟩ <;> rcases hkk with k0 | ⟨k0, k1⟩ | ⟨k0, k1, k2⟩ | ⟨k0, k1, k2, k6⟩ | ⟨k0, k1, k2, k6⟩
    all_goals first
      | (rw [if_pos (by omega)]
         first
           | (have u0 := beq_yes k0; clear k0)
           | (have u0 := beq_no k0; have u1 := beq_yes k1; clear k0 k1)
           | (have u0 := beq_no k0; have u1 := beq_no k1; have u2 := beq_yes k2; clear k0 k1 k2)
           | (have u0 := beq_no k0; have u1 := beq_no k1; have u2 := beq_no k2; have u6 := beq_yes k6; clear k0 k1 k2 k6)
         go_enter Try.func38, Try.ntmps38
         go_wp2
         go_ret
         exact ⟨rfl, g0⟩)
      | (rw [if_neg (by omega)]
         have u0 := beq_no k0; have u1 := beq_no k1; have u2 := beq_no k2; have u6 := beq_no k6
         clear k0 k1 k2 k6
         rcases Classical.em (f.kind = 28) with h | h
         · rw [if_pos h]
           have u28 := beq_yes h
           clear h
           go_enter Try.func38, Try.ntmps38
           go_wp2
           go_ret
           exact ⟨rfl, g0⟩
         · rw [if_neg h]
           have u28 := beq_no h
           clear h
           go_enter Try.func38, Try.ntmps38
           go_wp2
           go_ret
           exact ⟨rfl, g0⟩)
  · have e : allowF s f.kind f.own = false := by unfold allowF; rw [if_neg h2, if_neg h]
    rw [e]
    have t0 := beq_no (k := s) (c := 0) (by omega)
    have t1 := beq_no (k := s) (c := 1) (by omega)
    clear e h h2
    go_enter Try.func38, Try.ntmps38
    go_wp2
    go_ret
    exact ⟨rfl, g0⟩

end Go.Proofs.Ytggjeamondampaa
