/- Of without spans: a set of nothing. -/
import Derived.Test.YtielpjdjlmkejaaSQ
namespace Go.Proofs.Ytielpjdjlmkejaa
open Go.RowKit
set_option linter.unusedVariables false
set_option maxRecDepth 100000
set_option maxHeartbeats 400000

theorem len64_zero (w : World) : Calls Try.prog 82 #[.int .u64 0] w fun e w' => ∃ z, e = .returned (.int .i64 z) ∧ w' = w := by
  go_enter Try.func82, Try.ntmps82
  go_wp2
  all_goals go_ret
  all_goals exact ⟨_, rfl, rfl⟩

theorem len_zero (w : World) : Calls Try.prog 58 #[.int .u64 0] w fun e w' => ∃ z, e = .returned (.int .i64 z) ∧ w' = w := by
  have h := len64_zero w
  go_enter Try.func58, Try.ntmps58
  go_wp2_with (go_at_call 82; refine h.mono ?_; rintro e w' ⟨z, rfl, hw'⟩; subst w')
  all_goals go_ret
  all_goals exact ⟨_, rfl, rfl⟩

theorem insertS0 (f : Value) (w : World) : Calls Try.prog 73 #[.slice none 0 0, .int .i64 0, .int .i64 0, f] w fun e w' => e = .returned (.tuple #[]) ∧ w' = w := by
  go_enter Try.func73, Try.ntmps73
  go_wp2_with fail
  go_loopw [8] (fun i wr => i = .int .i64 1 ∧ wr = w) (fun _ _ => 0)
  case atStart => exact ⟨rfl, rfl⟩
  case round =>
    obtain ⟨rfl, rfl⟩ := hrel
    go_wp2_with fail
    refine bodyPost_end (results_none rfl _ _ _) rfl ?_
    exact ⟨rfl, rfl⟩

theorem pdq_none (f : Value) (z : Int) (w : World) : Calls Try.prog 57 #[.slice none 0 0, .int .i64 0, .int .i64 0, .int .i64 z, f] w fun e w' => e = .returned (.tuple #[]) ∧ w' = w := by
  have h := insertS0 f w
  go_enter Try.func57, Try.ntmps57
  go_wp2_with fail
  go_loopw [1, 2, 3, 10, 11] (fun a b l x y wr => a = .int .i64 0 ∧ b = .int .i64 0 ∧ l = .int .i64 z ∧ x = .bool true ∧ y = .bool true ∧ wr = w) (fun _ _ _ _ _ _ => 0)
  case atStart => exact ⟨rfl, rfl, rfl, rfl, rfl, rfl⟩
  case round =>
    obtain ⟨rfl, rfl, rfl, rfl, rfl, rfl⟩ := hrel
    go_wp2_with (go_at_call 73; refine h.mono ?_; rintro e w' ⟨rfl, hw'⟩; subst w')
    refine bodyPost_ret (results_none rfl _ _ _) rfl ?_
    exact ⟨rfl, rfl⟩

theorem sort_none (f : Value) (w : World) : Calls Try.prog 43 #[.slice none 0 0, f] w fun e w' => e = .returned (.tuple #[]) ∧ w' = w := by
  have h1 := len_zero w
  go_enter Try.func43, Try.ntmps43
  go_wp2_with fail
  refine h1.mono ?_
  rintro e w' ⟨z, rfl, hw'⟩
  subst w'
  have h2 := pdq_none f z w
  go_wp2_with fail
  refine h2.mono ?_
  rintro e w' ⟨rfl, hw'⟩
  subst w'
  go_wp2_with fail
  refine bodyPost_end (results_none rfl _ _ _) rfl ?_
  exact ⟨rfl, rfl⟩

/-- A set of nothing, in a block of its own. -/
theorem of_none (w : World) : Calls Try.prog 21 #[.slice none 0 0] w fun e w' => e = .returned (.pointer (some ⟨w.heap.size, 0, none⟩)) ∧ w' = w.alloc (.cells #[.int .i64 0, .slice none 0 0] 83) := by
  have h1 := clone_nil w 0 0
  have h2 := sort_none (.func (.func 44) #[] #[]) w
  go_enter Try.func21, Try.ntmps21
  go_wp2_with (first | (go_at_call 42; refine h1.mono ?_; rintro e w' ⟨rfl, hw'⟩; subst w') | (go_at_call 43; refine h2.mono ?_; rintro e w' ⟨rfl, hw'⟩; subst w'))
  go_loopw [15] (fun i wr => i = .int .i64 0 ∧ wr = w.alloc (.cells #[.int .i64 0, .slice none 0 0] 83)) (fun _ _ => 0)
  case atStart => exact ⟨rfl, rfl⟩
  case round =>
    obtain ⟨rfl, rfl⟩ := hrel
    go_wp2_with fail
    go_ret
    exact ⟨rfl, rfl⟩
end Go.Proofs.Ytielpjdjlmkejaa
