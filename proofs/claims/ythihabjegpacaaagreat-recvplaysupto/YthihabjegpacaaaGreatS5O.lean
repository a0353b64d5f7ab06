/- Of of nothing. -/
import Derived.Test.YthihabjegpacaaaGreatSQ
namespace Go.Proofs.YthihabjegpacaaaGreat
open Go.RowKit
set_option linter.unusedVariables false
set_option maxHeartbeats 400000
set_option maxRecDepth 100000

theorem len64_0 (w : World) : Calls Tryz.prog 80 #[.int .u64 0] w fun e w' => e = .returned (.int .i64 0) ∧ w.grownBy w' none := by
  go_enter Tryz.func80, Tryz.ntmps80
  go_wp2
  all_goals go_ret
  all_goals exact ⟨by kernel_rfl, grown_self _ _⟩
theorem len_0 (w : World) : Calls Tryz.prog 54 #[.int .u64 0] w fun e w' => e = .returned (.int .i64 0) ∧ w.grownBy w' none := by
  have h := len64_0 w
  go_enter Tryz.func54, Tryz.ntmps54
  go_wp2_with fail
  refine h.mono ?_
  rintro e w' ⟨rfl, hg⟩
  clear h
  go_wp2_with fail
  go_ret
  exact ⟨rfl, hg⟩
theorem ins_0 (v : Value) (w : World) : Calls Tryz.prog 71 #[.slice none 0 0, .int .i64 0, .int .i64 0, v] w fun e w' => e = .returned (.tuple #[]) ∧ w.grownBy w' none := by
  go_enter Tryz.func71, Tryz.ntmps71
  go_wp2
  go_loopw [8] (fun i wr => i = .int .i64 1 ∧ wr = w) (fun i _ => 0)
  case atStart => exact ⟨rfl, rfl⟩
  case round =>
    obtain ⟨rfl, rfl⟩ := hrel
    go_wp2
    refine bodyPost_end (results_none rfl _ _ _) rfl ?_
    exact ⟨rfl, grown_self _ _⟩
theorem pdq_0 (v : Value) (w : World) : Calls Tryz.prog 53 #[.slice none 0 0, .int .i64 0, .int .i64 0, .int .i64 0, v] w fun e w' => e = .returned (.tuple #[]) ∧ w.grownBy w' none := by
  have h := fun W => ins_0 v W
  go_enter Tryz.func53, Tryz.ntmps53
  go_wp2_with fail
  go_loopw [1, 2, 3] (fun i j l wr => i = .int .i64 0 ∧ j = .int .i64 0 ∧ wr = w) (fun i _ _ _ => 0)
  case atStart => exact ⟨rfl, rfl, rfl⟩
  case round =>
    obtain ⟨rfl, rfl, rfl⟩ := hrel
    go_wp2_with fail
    refine (h _).mono ?_
    rintro e w' ⟨rfl, hg⟩
    clear h
    go_wp2_with fail
    refine bodyPost_ret (results_none rfl _ _ _) rfl ?_
    exact ⟨rfl, hg⟩
theorem sort_0 (v : Value) (w : World) : Calls Tryz.prog 34 #[.slice none 0 0, v] w fun e w' => e = .returned (.tuple #[]) ∧ w.grownBy w' none := by
  have h := len_0 w
  have h2 := fun W => pdq_0 v W
  go_enter Tryz.func34, Tryz.ntmps34
  go_wp2_with fail
  refine h.mono ?_
  rintro e w' ⟨rfl, hg⟩
  clear h
  go_wp2_with fail
  refine (h2 _).mono ?_
  rintro e w2 ⟨rfl, hg2⟩
  clear h2
  go_wp2_with fail
  refine bodyPost_end (results_none rfl _ _ _) rfl ?_
  exact ⟨rfl, grown_trans hg hg2⟩

/-- Of of nothing: a new set. -/
theorem of_nil (w : World) : Calls Tryz.prog 12 #[.slice none 0 0] w fun e w' => ∃ b, e = .returned (.pointer (some ⟨b, 0, none⟩)) ∧ SetAt w' b 0 (.slice none 0 0) [] ∧ w.heap.size ≤ b ∧ w.grownBy w' none := by
  have h1 := clone_nil w 0 0
  have h2 := fun W => sort_0 (.func (.func 35) #[] #[]) W
  go_enter Tryz.func12, Tryz.ntmps12
  go_wp2_with fail
  refine h1.mono ?_
  rintro e w1 ⟨rfl, rfl⟩
  clear h1
  go_wp2_with fail
  refine (h2 _).mono ?_
  rintro e w2 ⟨rfl, hg2⟩
  clear h2
  have HG := hide hg2
  clear hg2
  go_wp2_with fail
  go_loopw [15] (fun i wr => i = .int .i64 0 ∧ wr = w2.alloc (.cells #[.int .i64 0, .slice none 0 0] 74)) (fun i _ => 0)
  case atStart => exact ⟨rfl, rfl⟩
  case round =>
    obtain ⟨rfl, rfl⟩ := hrel
    go_wp2_with fail
    go_ret
    exact ⟨_, rfl, ⟨heap_alloc_new w2 _, row_nil _⟩, (unhide HG).size, grown_trans (unhide HG) (grown_alloc _ _)⟩
end Go.Proofs.YthihabjegpacaaaGreat
