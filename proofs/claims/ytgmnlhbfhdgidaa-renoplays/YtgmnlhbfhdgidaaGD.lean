/- New, ctl, mtu; the document's New. -/
import Derived.Test.YtgmnlhbfhdgidaaGC2
namespace Go.Proofs.Ytgmnlhbfhdgidaa
open Go.RowKit
set_option linter.unusedVariables false
set_option maxRecDepth 100000
set_option maxHeartbeats 4000000

def firstF (m : Int) : Int := min (10 * m) (max 14720 (2 * m))
def cs0 (m : Int) : Cs := ⟨m, 0, firstF m, 4611686018427387903, 0, -1, 0⟩
abbrev fitsF (m : Int) : Prop := 1200 ≤ m ∧ m ≤ 9000
theorem cs0_ok {m : Int} (h : fitsF m) : (cs0 m).Ok 0 := by
  refine ⟨h, ?_, ?_, ?_, ?_, ?_⟩ <;> simp only [cs0, firstF, inT] <;> omega

theorem new_ok (m : Int) (h : fitsF m) (w : World) : Calls Try.prog 10 #[.int .i64 m] w fun e w' => e = .returned (.tuple #[ptr w.heap.size, .int .i64 0]) ∧ CB w' w.heap.size (cs0 m) ∧ w.grownBy w' none := by
  obtain ⟨m1, m2⟩ := h
  have n1 : ¬ m < 1200 := by omega
  have n2 : ¬ (9000 : Int) < m := by omega
  have b0 : CB (w.alloc (.cells #[.int .i64 m, .int .i64 0, .int .i64 0, .int .i64 0, .int .i64 0, .int .i64 0, .int .i64 0] 56)) w.heap.size ⟨m, 0, 0, 0, 0, 0, 0⟩ := Blk.new _ _ _
  obtain ⟨t, c0, c1, c2, c3, c4, c5, c6⟩ := b0.full
  simp only at c0 c1 c2 c3 c4 c5 c6
  have L := least_any w.heap.size ⟨m, 0, 0, 0, 0, 0, 0⟩ _ b0.drew ⟨m1, m2⟩
  have g0 := World.grownBy_alloc w (.cells #[.int .i64 m, .int .i64 0, .int .i64 0, .int .i64 0, .int .i64 0, .int .i64 0, .int .i64 0] 56) none
  have F : Hid (∀ S : Int, S = firstF m → CB (((((w.alloc (.cells #[.int .i64 m, .int .i64 0, .int .i64 0, .int .i64 0, .int .i64 0, .int .i64 0, .int .i64 0] 56)).setCell ⟨w.heap.size, 2, none⟩ (.int .i64 S)).setCell ⟨w.heap.size, 3, none⟩ (.int .i64 4611686018427387903)).setCell ⟨w.heap.size, 4, none⟩ (.int .i64 0)).setCell ⟨w.heap.size, 5, none⟩ (.int .i64 (-1))).drew w.heap.size (cs0 m) ∧ w.grownBy (((((w.alloc (.cells #[.int .i64 m, .int .i64 0, .int .i64 0, .int .i64 0, .int .i64 0, .int .i64 0, .int .i64 0] 56)).setCell ⟨w.heap.size, 2, none⟩ (.int .i64 S)).setCell ⟨w.heap.size, 3, none⟩ (.int .i64 4611686018427387903)).setCell ⟨w.heap.size, 4, none⟩ (.int .i64 0)).setCell ⟨w.heap.size, 5, none⟩ (.int .i64 (-1))).drew none) := by
    intro S hS
    refine ⟨?_, grown_drew' (grown_set (grown_set (grown_set (grown_set g0 _ 2 _ (Nat.le_refl _)) _ 3 _ (Nat.le_refl _)) _ 4 _ (Nat.le_refl _)) _ 5 _ (Nat.le_refl _))⟩
    rw [hS]
    exact ((((Blk.setC b0 2 (.int .i64 (firstF m))).setC 3 (.int .i64 4611686018427387903)).setC 4 (.int .i64 0)).setC 5 (.int .i64 (-1))).drew
  clear b0 g0
  go_enter Try.func10, Try.ntmps10
  go_wp2_with fail
  have w1 : IntKind.i64.wrap (10 * m) = 10 * m := by rw [IntKind.wrap_i64]; omega
  generalize hb : w.heap.size = b at *
  generalize w.alloc _ = X at *
  go_region_held3 (fun X => X.cell? ⟨b, 0, none⟩ = some (.int .i64 m) ∧ (∀ j, X.frozen? ⟨b, j, none⟩ = false)) (simp [*, setCell_far]) (first | (go_at_call 28; refine L.mono ?_; rintro e W ⟨rfl, rfl⟩))
  all_goals go_wp2_with fail
  all_goals go_ret2
  all_goals subst hb
  all_goals
    refine ⟨rfl, (unhide F _ ?_).1, (unhide F _ ?_).2⟩
    all_goals
      unfold firstF
      repeat' split
      all_goals omega
end Go.Proofs.Ytgmnlhbfhdgidaa
