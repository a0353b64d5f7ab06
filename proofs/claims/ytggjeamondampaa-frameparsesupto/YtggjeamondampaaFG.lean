/- shapeOf at no type; isKind. -/
import Derived.Test.YtggjeamondampaaFC
import Derived.Test.YtggjeamondampaaFD
import Derived.Test.YtggjeamondampaaFE
namespace Go.Proofs.Ytggjeamondampaa
open Go.RowKit
set_option linter.unusedVariables false
set_option maxRecDepth 100000
set_option maxHeartbeats 4000000

theorem shape_no (k : Int) (hs : shapeF k = none) (w : World) :
    Calls Try.prog 67 #[.int .i64 k] w fun e w' => e = .returned (.tuple #[Fr.zero.val nilS nilS, .agg #[.int .i64 0, .int .i64 0, .int .i64 0, .int .i64 0], .bool false]) ∧ w.grownBy w' none := by
  have t0 : (k == 0) = false := by simp; rintro rfl; simp [shapeF] at hs
  have t1 : (k == 1) = false := by simp; rintro rfl; simp [shapeF] at hs
  have t30 : (k == 30) = false := by simp; rintro rfl; simp [shapeF] at hs
  have t2 : (k == 2) = false := by simp; rintro rfl; simp [shapeF] at hs
  have t3 : (k == 3) = false := by simp; rintro rfl; simp [shapeF] at hs
  have t4 : (k == 4) = false := by simp; rintro rfl; simp [shapeF] at hs
  have t5 : (k == 5) = false := by simp; rintro rfl; simp [shapeF] at hs
  have t6 : (k == 6) = false := by simp; rintro rfl; simp [shapeF] at hs
  have t8 : (k == 8) = false := by simp; rintro rfl; simp [shapeF] at hs
  have t9 : (k == 9) = false := by simp; rintro rfl; simp [shapeF] at hs
  have t10 : (k == 10) = false := by simp; rintro rfl; simp [shapeF] at hs
  have t11 : (k == 11) = false := by simp; rintro rfl; simp [shapeF] at hs
  have t12 : (k == 12) = false := by simp; rintro rfl; simp [shapeF] at hs
  have t13 : (k == 13) = false := by simp; rintro rfl; simp [shapeF] at hs
  have t14 : (k == 14) = false := by simp; rintro rfl; simp [shapeF] at hs
  have t15 : (k == 15) = false := by simp; rintro rfl; simp [shapeF] at hs
  have t16 : (k == 16) = false := by simp; rintro rfl; simp [shapeF] at hs
  have t20 : (k == 20) = false := by simp; rintro rfl; simp [shapeF] at hs
  have t17 : (k == 17) = false := by simp; rintro rfl; simp [shapeF] at hs
  have t21 : (k == 21) = false := by simp; rintro rfl; simp [shapeF] at hs
  have t19 : (k == 19) = false := by simp; rintro rfl; simp [shapeF] at hs
  have t23 : (k == 23) = false := by simp; rintro rfl; simp [shapeF] at hs
  have t18 : (k == 18) = false := by simp; rintro rfl; simp [shapeF] at hs
  have t22 : (k == 22) = false := by simp; rintro rfl; simp [shapeF] at hs
  have t26 : (k == 26) = false := by simp; rintro rfl; simp [shapeF] at hs
  have t27 : (k == 27) = false := by simp; rintro rfl; simp [shapeF] at hs
  have t28 : (k == 28) = false := by simp; rintro rfl; simp [shapeF] at hs
  have t29 : (k == 29) = false := by simp; rintro rfl; simp [shapeF] at hs
  clear hs
  go_enter Try.func67, Try.ntmps67
  repeat' (first | with_reducible refine then_x ?_ | with_reducible refine blk_s ?_ | with_reducible refine blk_o (by decide) ?_ | with_reducible refine then_n ?_ | with_reducible refine then_r ?_ | with_reducible refine blk_r ?_ | go_step)
  refine bodyPost_ret (results_cct (p := 2) (q := 3) (u := 4) (tp := 26) (tq := 115) Try.results67 _ _ w.heap.size (w.heap.size + 1) (Fr.zero.cs nilS nilS) #[.int .i64 0, .int .i64 0, .int .i64 0, .int .i64 0] _ _ rfl rfl (Blk.two w _ _ _ _).1 (Blk.two w _ _ _ _).2.1 Try.underlying26 rfl Try.size26 Try.underlying115 rfl Try.size73) rfl ?_
  exact ⟨rfl, (Blk.two w _ _ _ _).2.2⟩

/-- shapeOf, at a type. -/
theorem shape_yes (k : Int) (f : Fr) (p : Nat × Nat × Nat × Nat) (hs : shapeF k = some (f, p)) (w : World) :
    Calls Try.prog 67 #[.int .i64 k] w fun e w' => e = .returned (.tuple #[f.val nilS nilS, p4 p, .bool true]) ∧ w.grownBy w' none :=
  shape_any k f p hs w (fun h W => stream_any k h f p hs W)

theorem isKind_any (k : Int) (w : World) : Calls Try.prog 61 #[.int .i64 k] w fun e w' => e = .returned (.bool (isKindF k)) ∧ w.grownBy w' none := by
  cases hs : shapeF k with
  | none =>
    have e : isKindF k = false := by unfold isKindF; rw [hs]
    rw [e]
    have hc := shape_no k hs w
    clear e hs
    go_enter Try.func61, Try.ntmps61
    go_wp2_with (first | (go_at_call 67; refine hc.mono ?_; rintro e W1 ⟨rfl, g1⟩; clear hc))
    go_ret
    exact ⟨rfl, g1.trans ((World.grownBy_alloc _ _ none).trans (World.grownBy_alloc _ _ none))⟩
  | some q =>
    obtain ⟨f, p⟩ := q
    have e : isKindF k = decide (f.kind = k) := by unfold isKindF; rw [hs]
    have e2 : (f.kind == k) = decide (f.kind = k) := by rfl
    rw [e, ← e2]
    have hc := shape_yes k f p hs w
    clear e e2 hs
    go_enter Try.func61, Try.ntmps61
    go_wp2_with (first | (go_at_call 67; refine hc.mono ?_; rintro e W1 ⟨rfl, g1⟩; clear hc))
    go_ret
    exact ⟨rfl, g1.trans ((World.grownBy_alloc _ _ none).trans (World.grownBy_alloc _ _ none))⟩

end Go.Proofs.Ytggjeamondampaa
