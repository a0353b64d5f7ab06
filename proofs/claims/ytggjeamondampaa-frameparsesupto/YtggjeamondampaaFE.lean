/- oneIf, streamBits, typeOf, field, most, isNumber. -/
import Derived.Test.YtggjeamondampaaFH
import Derived.Deep.QuietTactic
import Derived.BigQuiet
namespace Go.Proofs.Ytggjeamondampaa
open Go.RowKit
set_option linter.unusedVariables false
set_option maxRecDepth 100000
set_option maxHeartbeats 1000000

theorem oneIf_any (b : Bool) (w : World) : Calls Try.prog 85 #[.bool b] w fun e w' => e = .returned (.int .i64 (one b)) ∧ w' = w := by
  cases b
  · go_enter Try.func85, Try.ntmps85
    go_wp2
    go_ret
    exact ⟨rfl, rfl⟩
  · go_enter Try.func85, Try.ntmps85
    go_wp2
    go_ret
    exact ⟨rfl, rfl⟩

theorem one_bounds (b : Bool) : 0 ≤ one b ∧ one b ≤ 1 := by cases b <;> simp [one]

theorem most_any (p : Nat) (w : World) : Calls Try.prog 93 #[.int .i64 p] w fun e w' => e = .returned (.int .i64 (mostF p)) ∧ w' = w := by
  by_cases h : p = 4
  · subst h
    go_enter Try.func93, Try.ntmps93
    go_wp2
    go_ret
    exact ⟨rfl, rfl⟩
  · have h' : ((p : Int) == 4) = false := by simp; omega
    have e : mostF p = MAXN := by unfold mostF; rw [if_neg h]
    rw [e]
    clear e h
    go_enter Try.func93, Try.ntmps93
    go_wp2
    go_ret
    exact ⟨rfl, rfl⟩

theorem isNumber_any (v m : Int) (w : World) : Calls Try.prog 96 #[.int .i64 v, .int .i64 m] w fun e w' => e = .returned (.bool (numb v m)) ∧ w' = w := by
  by_cases h : 0 ≤ v
  · have hd : decide (0 ≤ v) = true := decide_eq_true h
    have e : numb v m = decide (v ≤ m) := by unfold numb; simp [h]
    rw [e]
    go_enter Try.func96, Try.ntmps96
    go_wp2
    go_ret
    exact ⟨rfl, rfl⟩
  · have hd : decide (0 ≤ v) = false := decide_eq_false h
    have e : numb v m = false := by unfold numb; simp [h]
    rw [e]
    go_enter Try.func96, Try.ntmps96
    go_wp2
    go_ret
    exact ⟨rfl, rfl⟩

/-- Where a part stands that is one number. -/
def fo (p : Nat) : Nat := if p = 1 then 1 else if p = 2 then 2 else if p = 3 ∨ p = 4 then 7 else if p = 5 then 9 else if p = 7 then 11 else 4

theorem field_any (g p : Nat) (w : World) (hp : p ≤ 14) : Calls Try.prog 70 #[.pointer (some ⟨g, 0, none⟩), .int .i64 p] w fun e w' => e = .returned (.pointer (some ⟨g, fo p, none⟩)) ∧ w' = w := by
  rcases (by omega : p = 1 ∨ p = 2 ∨ p = 3 ∨ p = 4 ∨ p = 5 ∨ p = 7 ∨ (p = 0 ∨ p = 6 ∨ p = 8 ∨ p = 9 ∨ p = 10 ∨ p = 11 ∨ p = 12 ∨ p = 13 ∨ p = 14)) with rfl | rfl | rfl | rfl | rfl | rfl | h
  all_goals first
    | (go_enter Try.func70, Try.ntmps70
       go_wp2
       go_ret
       exact ⟨rfl, rfl⟩)
    | (have e : fo p = 4 := by unfold fo; rw [if_neg (by omega), if_neg (by omega), if_neg (by omega), if_neg (by omega), if_neg (by omega)]
       rw [e]
       have h1 : ((p : Int) == 1) = false := by simp; omega
       have h2 : ((p : Int) == 2) = false := by simp; omega
       have h3 : ((p : Int) == 3) = false := by simp; omega
       have h4 : ((p : Int) == 4) = false := by simp; omega
       have h5 : ((p : Int) == 5) = false := by simp; omega
       have h7 : ((p : Int) == 7) = false := by simp; omega
       clear e h hp
       go_enter Try.func70, Try.ntmps70
       go_wp2
       go_ret
       exact ⟨rfl, rfl⟩)

theorem grown_drewN' {w W : World} {q : Nat} (g : w.grownBy W none) : w.grownBy (W.drewN q) none := ⟨g.os, g.tape, g.output, g.size, g.block⟩

theorem streamBits_any (f : Fr) (d r : Value) (w : World) : Calls Try.prog 84 #[f.val d r] w fun e w' => e = .returned (.int .i64 (one (decide (f.offset > 0)) * 4 + one (!f.tail) * 2 + one f.fin)) ∧ w.grownBy w' none := by
  have h1 := one_bounds (decide (f.offset > 0))
  have h2 := one_bounds (!f.tail)
  have h3 := one_bounds f.fin
  have e1 : IntKind.i64.wrap (one (decide (f.offset > 0)) * 4) = one (decide (f.offset > 0)) * 4 := by rw [IntKind.wrap_i64]; omega
  have e2 : IntKind.i64.wrap (one (!f.tail) * 2) = one (!f.tail) * 2 := by rw [IntKind.wrap_i64]; omega
  have e3 : IntKind.i64.wrap (one (decide (f.offset > 0)) * 4 + one (!f.tail) * 2) = one (decide (f.offset > 0)) * 4 + one (!f.tail) * 2 := by rw [IntKind.wrap_i64]; omega
  have e4 : IntKind.i64.wrap (one f.fin) = one f.fin := by rw [IntKind.wrap_i64]; omega
  have e5 : IntKind.i64.wrap (one (decide (f.offset > 0)) * 4 + one (!f.tail) * 2 + one f.fin) = one (decide (f.offset > 0)) * 4 + one (!f.tail) * 2 + one f.fin := by rw [IntKind.wrap_i64]; omega
  clear h1 h2 h3
  go_enter Try.func84, Try.ntmps84
  go_wp2
  go_quiet (exact Calls.quiet_of_same (oneIf_any _ _))
  go_wp2
  go_ret
  exact ⟨rfl, grown_drewN' (World.grownBy_alloc w _ none)⟩

theorem typeOf_any (f : Fr) (d r : Value) (w : World) (hk : -9223372036854775808 ≤ f.kind ∧ f.kind ≤ 9223372036854775807) : Calls Try.prog 66 #[f.val d r] w fun e w' => e = .returned (.int .i64 (typeF f)) ∧ w.grownBy w' none := by
  have g0 := World.grownBy_alloc w (.cells (f.cs d r) 26) none
  have hsb := streamBits_any f d r
  have hon := oneIf_any
  have o1 := one_bounds (decide (f.offset > 0))
  have o2 := one_bounds (!f.tail)
  have o3 := one_bounds f.fin
  have o4 := one_bounds f.marks
  have o5 := one_bounds f.uni
  have o6 := one_bounds f.own
  rcases Classical.em (f.kind = 8) with h | h8
  · have e : typeF f = 8 + (one (decide (f.offset > 0)) * 4 + one (!f.tail) * 2 + one f.fin) := by unfold typeF; rw [if_pos h]
    have e2 : IntKind.i64.wrap (f.kind + (one (decide (f.offset > 0)) * 4 + one (!f.tail) * 2 + one f.fin)) = 8 + (one (decide (f.offset > 0)) * 4 + one (!f.tail) * 2 + one f.fin) := by rw [h, IntKind.wrap_i64]; omega
    rw [e]
    have t8 : (f.kind == 8) = true := by simpa using h
    clear e o1 o2 o3 o4 o5 o6 hk h
    go_enter Try.func66, Try.ntmps66
    go_wp2_with (first | (go_at_call 84; refine (hsb _).mono ?_; rintro e W1 ⟨rfl, g1⟩) | (go_at_call 85; refine (hon _ _).mono ?_; rintro e W1 ⟨rfl, hw⟩; subst hw))
    go_ret
    exact ⟨rfl, g0.trans g1⟩
  rcases Classical.em (f.kind = 2) with h | h2
  · have e : typeF f = 2 + one f.marks := by unfold typeF; rw [if_neg h8, if_pos h]
    have e2 : IntKind.i64.wrap (f.kind + one f.marks) = 2 + one f.marks := by rw [h, IntKind.wrap_i64]; omega
    rw [e]
    have t8 : (f.kind == 8) = false := by simpa using h8
    have t2 : (f.kind == 2) = true := by simpa using h
    clear e o1 o2 o3 o4 o5 o6 hk h h8
    go_enter Try.func66, Try.ntmps66
    go_wp2_with (first | (go_at_call 84; refine (hsb _).mono ?_; rintro e W1 ⟨rfl, g1⟩) | (go_at_call 85; refine (hon _ _).mono ?_; rintro e W1 ⟨rfl, hw⟩; subst hw))
    go_ret
    exact ⟨rfl, g0⟩
  rcases Classical.em (f.kind = 18) with h | h18
  · have e : typeF f = 18 + one f.uni := by unfold typeF; rw [if_neg h8, if_neg h2, if_pos (.inl h), h]
    have e2 : IntKind.i64.wrap (f.kind + one f.uni) = 18 + one f.uni := by rw [h, IntKind.wrap_i64]; omega
    rw [e]
    have t8 : (f.kind == 8) = false := by simpa using h8
    have t2 : (f.kind == 2) = false := by simpa using h2
    have t18 : (f.kind == 18) = true := by simpa using h
    clear e o1 o2 o3 o4 o5 o6 hk h h8 h2
    go_enter Try.func66, Try.ntmps66
    go_wp2_with (first | (go_at_call 84; refine (hsb _).mono ?_; rintro e W1 ⟨rfl, g1⟩) | (go_at_call 85; refine (hon _ _).mono ?_; rintro e W1 ⟨rfl, hw⟩; subst hw))
    go_ret
    exact ⟨rfl, g0⟩
  rcases Classical.em (f.kind = 22) with h | h22
  · have e : typeF f = 22 + one f.uni := by unfold typeF; rw [if_neg h8, if_neg h2, if_pos (.inr h), h]
    have e2 : IntKind.i64.wrap (f.kind + one f.uni) = 22 + one f.uni := by rw [h, IntKind.wrap_i64]; omega
    rw [e]
    have t8 : (f.kind == 8) = false := by simpa using h8
    have t2 : (f.kind == 2) = false := by simpa using h2
    have t18 : (f.kind == 18) = false := by simpa using h18
    have t22 : (f.kind == 22) = true := by simpa using h
    clear e o1 o2 o3 o4 o5 o6 hk h h8 h2 h18
    go_enter Try.func66, Try.ntmps66
    go_wp2_with (first | (go_at_call 84; refine (hsb _).mono ?_; rintro e W1 ⟨rfl, g1⟩) | (go_at_call 85; refine (hon _ _).mono ?_; rintro e W1 ⟨rfl, hw⟩; subst hw))
    go_ret
    exact ⟨rfl, g0⟩
  rcases Classical.em (f.kind = 28) with h | h28
  · have e : typeF f = 28 + one f.own := by unfold typeF; rw [if_neg h8, if_neg h2, if_neg (by omega), if_pos h]
    have e2 : IntKind.i64.wrap (f.kind + one f.own) = 28 + one f.own := by rw [h, IntKind.wrap_i64]; omega
    rw [e]
    have t8 : (f.kind == 8) = false := by simpa using h8
    have t2 : (f.kind == 2) = false := by simpa using h2
    have t18 : (f.kind == 18) = false := by simpa using h18
    have t22 : (f.kind == 22) = false := by simpa using h22
    have t28 : (f.kind == 28) = true := by simpa using h
    clear e o1 o2 o3 o4 o5 o6 hk h h8 h2 h18 h22
    go_enter Try.func66, Try.ntmps66
    go_wp2_with (first | (go_at_call 84; refine (hsb _).mono ?_; rintro e W1 ⟨rfl, g1⟩) | (go_at_call 85; refine (hon _ _).mono ?_; rintro e W1 ⟨rfl, hw⟩; subst hw))
    go_ret
    exact ⟨rfl, g0⟩
  · have e : typeF f = f.kind := by unfold typeF; rw [if_neg h8, if_neg h2, if_neg (by omega), if_neg h28]
    rw [e]
    have t1 : (f.kind == 8) = false := by simpa using h8
    have t2 : (f.kind == 2) = false := by simpa using h2
    have t3 : (f.kind == 18) = false := by simpa using h18
    have t4 : (f.kind == 22) = false := by simpa using h22
    have t5 : (f.kind == 28) = false := by simpa using h28
    clear e o1 o2 o3 o4 o5 o6 hk h8 h2 h18 h22 h28
    go_enter Try.func66, Try.ntmps66
    go_wp2
    go_ret
    exact ⟨rfl, g0⟩

end Go.Proofs.Ytggjeamondampaa
