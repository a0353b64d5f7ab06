/- Layer 3: PnumNear, PnumBack. -/
import Derived.Test.YtgmaialgkenbnaaQW
namespace Go.Proofs.Ytgmaialgkenbnaa
open Go.RowKit
set_option linter.unusedVariables false
set_option maxRecDepth 100000

theorem near_bad (l low wd : Int) (w : World) (hl : -9223372036854775808 ≤ l ∧ l ≤ 9223372036854775807) (h0 : 0 ≤ low ∧ low < 4294967296) (hb : WholeBad l low wd) :
    Calls Try.prog 6 #[.int .i64 l, .int .u32 low, .int .i64 wd] w fun e w' => e = .returned (.bool true) ∧ Below w.heap.size w w' := by
  have c1 := fun W => whole_bad l low wd W h0 hb
  have c2 := fun W => lawStretch_any wd W
  have hs : (l < -1 ∨ 4611686018427387903 < l) ∨ (-1 ≤ l ∧ l ≤ 4611686018427387903 ∧ lst wd ≤ 1) ∨ (-1 ≤ l ∧ l ≤ 4611686018427387903 ∧ 1 < lst wd ∧ lst wd ≤ low) := by
    unfold WholeBad st at hb
    unfold lst
    (repeat' split at hb) <;> (repeat' split) <;> omega
  clear hb
  generalize lst wd = s at *
  have kd : s ≤ low → decide (low < s) = false := fun k => decide_eq_false (by omega)
  rcases hs with k | ⟨k1, k2, k3⟩ | ⟨k1, k2, k3, k4⟩
  all_goals first
    | (have kd := kd k4; have k5 : ¬ low < s := Int.not_lt.2 k4)
    | clear kd
  all_goals
    go_enter Try.func6, Try.ntmps6
    go_wp2_with (first | (go_at_call 9; refine (awake_any _).mono ?_; rintro e w1 ⟨rfl, bel⟩) | (go_at_call 15; refine (c1 _).mono ?_; rintro e w' ⟨rfl, hw'⟩; subst w') | (go_at_call 17; refine (c2 _).mono ?_; rintro e w' ⟨rfl, hw'⟩; subst w'))
    all_goals go_ret
    all_goals exact ⟨rfl, bel⟩

set_option maxHeartbeats 3200000 in
theorem near_1 (l V : Int) (w : World) (h1 : -1 ≤ l) (h2 : l ≤ 4611686018427387903) (s1 : 0 ≤ V) (s2 : V ≤ 4611686018427387903)
    (c1 : ∀ W, Calls Try.prog 15 #[.int .i64 l, .int .u32 (V % 256), .int .i64 1] W fun r w' => r = .returned (.tuple #[.int .i64 V, .int .i64 0]) ∧ Below W.heap.size W w')
    (k : (V - l - 1 < 0 ∧ 4611686018427387903 < V + 256) ∨ (V - l - 1 < 0 ∧ V + 256 ≤ 4611686018427387903 ∧ l + 1 - V < V + 256 - l - 1) ∨ (0 ≤ V - l - 1 ∧ V - 256 < 0) ∨ (0 ≤ V - l - 1 ∧ 0 ≤ V - 256 ∧ V - l - 1 ≤ -(V - 256 - l - 1))) :
    Calls Try.prog 6 #[.int .i64 l, .int .u32 (V % 256), .int .i64 1] w fun e w' => e = .returned (.bool true) ∧ Below w.heap.size w w' := by
  have c2 : ∀ W, Calls Try.prog 17 #[.int .i64 1] W fun r w' => r = .returned (.int .i64 256) ∧ w' = W := fun W => lawStretch_any 1 W
  have m1 : V % 256 < 256 := by omega
  have m0 : 0 ≤ V % 256 := by omega
  have m2 : decide (V % 256 < 256) = true := decide_eq_true m1
  rcases k with ⟨k1, k2⟩ | ⟨k1, k2, k3⟩ | ⟨k1, k2⟩ | ⟨k1, k2, k3⟩
  all_goals
    go_enter Try.func6, Try.ntmps6
    go_wp2_with (first | (go_at_call 9; refine (awake_any _).mono ?_; rintro e w1 ⟨rfl, bel⟩) | (go_at_call 15; refine (c1 _).mono ?_; rintro e w2 ⟨rfl, bel2⟩) | (go_at_call 17; refine (c2 _).mono ?_; rintro e w' ⟨rfl, hw'⟩; subst w'))
    all_goals go_ret
    all_goals refine ⟨?_, bel.trans (bel2.mono bel.size)⟩
    all_goals first | exact rfl | exact ret_bool (by simp only [Bool.or_eq_true, decide_eq_true_eq]; omega)

set_option maxHeartbeats 3200000 in
theorem near_2 (l V : Int) (w : World) (h1 : -1 ≤ l) (h2 : l ≤ 4611686018427387903) (s1 : 0 ≤ V) (s2 : V ≤ 4611686018427387903)
    (c1 : ∀ W, Calls Try.prog 15 #[.int .i64 l, .int .u32 (V % 65536), .int .i64 2] W fun r w' => r = .returned (.tuple #[.int .i64 V, .int .i64 0]) ∧ Below W.heap.size W w')
    (k : (V - l - 1 < 0 ∧ 4611686018427387903 < V + 65536) ∨ (V - l - 1 < 0 ∧ V + 65536 ≤ 4611686018427387903 ∧ l + 1 - V < V + 65536 - l - 1) ∨ (0 ≤ V - l - 1 ∧ V - 65536 < 0) ∨ (0 ≤ V - l - 1 ∧ 0 ≤ V - 65536 ∧ V - l - 1 ≤ -(V - 65536 - l - 1))) :
    Calls Try.prog 6 #[.int .i64 l, .int .u32 (V % 65536), .int .i64 2] w fun e w' => e = .returned (.bool true) ∧ Below w.heap.size w w' := by
  have c2 : ∀ W, Calls Try.prog 17 #[.int .i64 2] W fun r w' => r = .returned (.int .i64 65536) ∧ w' = W := fun W => lawStretch_any 2 W
  have m1 : V % 65536 < 65536 := by omega
  have m0 : 0 ≤ V % 65536 := by omega
  have m2 : decide (V % 65536 < 65536) = true := decide_eq_true m1
  rcases k with ⟨k1, k2⟩ | ⟨k1, k2, k3⟩ | ⟨k1, k2⟩ | ⟨k1, k2, k3⟩
  all_goals
    go_enter Try.func6, Try.ntmps6
    go_wp2_with (first | (go_at_call 9; refine (awake_any _).mono ?_; rintro e w1 ⟨rfl, bel⟩) | (go_at_call 15; refine (c1 _).mono ?_; rintro e w2 ⟨rfl, bel2⟩) | (go_at_call 17; refine (c2 _).mono ?_; rintro e w' ⟨rfl, hw'⟩; subst w'))
    all_goals go_ret
    all_goals refine ⟨?_, bel.trans (bel2.mono bel.size)⟩
    all_goals first | exact rfl | exact ret_bool (by simp only [Bool.or_eq_true, decide_eq_true_eq]; omega)

set_option maxHeartbeats 3200000 in
theorem near_3 (l V : Int) (w : World) (h1 : -1 ≤ l) (h2 : l ≤ 4611686018427387903) (s1 : 0 ≤ V) (s2 : V ≤ 4611686018427387903)
    (c1 : ∀ W, Calls Try.prog 15 #[.int .i64 l, .int .u32 (V % 16777216), .int .i64 3] W fun r w' => r = .returned (.tuple #[.int .i64 V, .int .i64 0]) ∧ Below W.heap.size W w')
    (k : (V - l - 1 < 0 ∧ 4611686018427387903 < V + 16777216) ∨ (V - l - 1 < 0 ∧ V + 16777216 ≤ 4611686018427387903 ∧ l + 1 - V < V + 16777216 - l - 1) ∨ (0 ≤ V - l - 1 ∧ V - 16777216 < 0) ∨ (0 ≤ V - l - 1 ∧ 0 ≤ V - 16777216 ∧ V - l - 1 ≤ -(V - 16777216 - l - 1))) :
    Calls Try.prog 6 #[.int .i64 l, .int .u32 (V % 16777216), .int .i64 3] w fun e w' => e = .returned (.bool true) ∧ Below w.heap.size w w' := by
  have c2 : ∀ W, Calls Try.prog 17 #[.int .i64 3] W fun r w' => r = .returned (.int .i64 16777216) ∧ w' = W := fun W => lawStretch_any 3 W
  have m1 : V % 16777216 < 16777216 := by omega
  have m0 : 0 ≤ V % 16777216 := by omega
  have m2 : decide (V % 16777216 < 16777216) = true := decide_eq_true m1
  rcases k with ⟨k1, k2⟩ | ⟨k1, k2, k3⟩ | ⟨k1, k2⟩ | ⟨k1, k2, k3⟩
  all_goals
    go_enter Try.func6, Try.ntmps6
    go_wp2_with (first | (go_at_call 9; refine (awake_any _).mono ?_; rintro e w1 ⟨rfl, bel⟩) | (go_at_call 15; refine (c1 _).mono ?_; rintro e w2 ⟨rfl, bel2⟩) | (go_at_call 17; refine (c2 _).mono ?_; rintro e w' ⟨rfl, hw'⟩; subst w'))
    all_goals go_ret
    all_goals refine ⟨?_, bel.trans (bel2.mono bel.size)⟩
    all_goals first | exact rfl | exact ret_bool (by simp only [Bool.or_eq_true, decide_eq_true_eq]; omega)

set_option maxHeartbeats 3200000 in
theorem near_4 (l V : Int) (w : World) (h1 : -1 ≤ l) (h2 : l ≤ 4611686018427387903) (s1 : 0 ≤ V) (s2 : V ≤ 4611686018427387903)
    (c1 : ∀ W, Calls Try.prog 15 #[.int .i64 l, .int .u32 (V % 4294967296), .int .i64 4] W fun r w' => r = .returned (.tuple #[.int .i64 V, .int .i64 0]) ∧ Below W.heap.size W w')
    (k : (V - l - 1 < 0 ∧ 4611686018427387903 < V + 4294967296) ∨ (V - l - 1 < 0 ∧ V + 4294967296 ≤ 4611686018427387903 ∧ l + 1 - V < V + 4294967296 - l - 1) ∨ (0 ≤ V - l - 1 ∧ V - 4294967296 < 0) ∨ (0 ≤ V - l - 1 ∧ 0 ≤ V - 4294967296 ∧ V - l - 1 ≤ -(V - 4294967296 - l - 1))) :
    Calls Try.prog 6 #[.int .i64 l, .int .u32 (V % 4294967296), .int .i64 4] w fun e w' => e = .returned (.bool true) ∧ Below w.heap.size w w' := by
  have c2 : ∀ W, Calls Try.prog 17 #[.int .i64 4] W fun r w' => r = .returned (.int .i64 4294967296) ∧ w' = W := fun W => lawStretch_any 4 W
  have m1 : V % 4294967296 < 4294967296 := by omega
  have m0 : 0 ≤ V % 4294967296 := by omega
  have m2 : decide (V % 4294967296 < 4294967296) = true := decide_eq_true m1
  rcases k with ⟨k1, k2⟩ | ⟨k1, k2, k3⟩ | ⟨k1, k2⟩ | ⟨k1, k2, k3⟩
  all_goals
    go_enter Try.func6, Try.ntmps6
    go_wp2_with (first | (go_at_call 9; refine (awake_any _).mono ?_; rintro e w1 ⟨rfl, bel⟩) | (go_at_call 15; refine (c1 _).mono ?_; rintro e w2 ⟨rfl, bel2⟩) | (go_at_call 17; refine (c2 _).mono ?_; rintro e w' ⟨rfl, hw'⟩; subst w'))
    all_goals go_ret
    all_goals refine ⟨?_, bel.trans (bel2.mono bel.size)⟩
    all_goals first | exact rfl | exact ret_bool (by simp only [Bool.or_eq_true, decide_eq_true_eq]; omega)

theorem near_good (l low wd : Int) (w : World) (h1 : -1 ≤ l) (h2 : l ≤ 4611686018427387903) (hw : 1 ≤ wd ∧ wd ≤ 4) (h3 : 0 ≤ low ∧ low < st wd) :
    Calls Try.prog 6 #[.int .i64 l, .int .u32 low, .int .i64 wd] w fun e w' => e = .returned (.bool true) ∧ Below w.heap.size w w' := by
  obtain ⟨V, hV⟩ : ∃ V, V = wholeV l low wd := ⟨_, rfl⟩
  have c1 := fun W => whole_good l low wd W h1 h2 hw h3 V hV
  obtain ⟨⟨s1, s2⟩, s3, s4, s5⟩ := whole_spec l low wd h1 h2 h3.1 h3.2
  rw [← hV] at s1 s2 s3 s4 s5
  unfold Okn Bt farF at s4 s5
  have k : (V - l - 1 < 0 ∧ 4611686018427387903 < V + st wd) ∨ (V - l - 1 < 0 ∧ V + st wd ≤ 4611686018427387903 ∧ l + 1 - V < V + st wd - l - 1) ∨ (0 ≤ V - l - 1 ∧ V - st wd < 0) ∨ (0 ≤ V - l - 1 ∧ 0 ≤ V - st wd ∧ V - l - 1 ≤ -(V - st wd - l - 1)) := by
    have hp := st_pos wd
    generalize st wd = s at *
    omega
  clear hV s4 s5
  subst low
  obtain rfl | rfl | rfl | rfl : wd = 1 ∨ wd = 2 ∨ wd = 3 ∨ wd = 4 := by omega
  · exact near_1 l V w h1 h2 s1 s2 c1 k
  · exact near_2 l V w h1 h2 s1 s2 c1 k
  · exact near_3 l V w h1 h2 s1 s2 c1 k
  · exact near_4 l V w h1 h2 s1 s2 c1 k

theorem near_walk (l low wd : Int) (w : World) (hl : -9223372036854775808 ≤ l ∧ l ≤ 9223372036854775807) (h0 : 0 ≤ low ∧ low < 4294967296) :
    Calls Try.prog 6 #[.int .i64 l, .int .u32 low, .int .i64 wd] w fun e w' => e = .returned (.bool true) ∧ Below w.heap.size w w' := by
  by_cases hb : WholeBad l low wd
  · exact near_bad l low wd w hl h0 hb
  · unfold WholeBad at hb
    exact near_good l low wd w (by omega) (by omega) (by omega) (by omega)
end Go.Proofs.Ytgmaialgkenbnaa
