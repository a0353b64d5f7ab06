/- New. -/
import Derived.Test.YthpnbajhogoinaaIH
namespace Go.Proofs.Ythpnbajhogoinaa
open Go.RowKit Fl
set_option linter.unusedVariables false
set_option maxRecDepth 100000
set_option maxHeartbeats 4000000

theorem setCell_far {w : World} {b j k : Nat} {v : Value} (hk : k ≠ j) : (w.setCell ⟨b, j, none⟩ v).cell? ⟨b, k, none⟩ = w.cell? ⟨b, k, none⟩ := by
  simp only [World.setCell, World.cell?, Array.getElem?_modify, if_true]
  cases hh : w.heap[b]? with
  | none => simp
  | some o => cases o <;> simp [Ne.symm hk]
def firstF (m : Int) : Int := min (10 * m) (max 14720 (2 * m))
def cs0 (m : Int) : Cs := ⟨m, 0, firstF m, 4611686018427387903, 0, -1, 0, -1, 0, 0, 0, 0⟩
abbrev fitsF (m : Int) : Prop := 1200 ≤ m ∧ m ≤ 9000
theorem cs0_ok {m : Int} (h : fitsF m) : (cs0 m).Ok 0 := by
  refine ⟨h, ?_, ?_, ?_, ?_, ?_, Nat.zero_le _, Nat.zero_le _, ?_, Nat.zero_le _, ?_, Nat.zero_le _⟩ <;> simp only [cs0, firstF, inT] <;> omega
abbrev cn0 (m : Int) : Array Value := #[.int .i64 m, .int .i64 0, .int .i64 0, .int .i64 0, .int .i64 0, .int .i64 0, fv 0, .int .i64 (-1), fv 0, .int .i64 0, fv 0, fv 0]
theorem new_ok (m : Int) (h : fitsF m) (w : World) : Calls Try.prog 10 #[.int .i64 m] w fun e w' => ∃ b, e = .returned (.tuple #[ptr b, .int .i64 0]) ∧ w.heap.size ≤ b ∧ CB w' b (cs0 m) ∧ w.grownBy w' none := by
  obtain ⟨m1, m2⟩ := h
  have n1 : ¬ m < 1200 := by omega
  have n2 : ¬ (9000 : Int) < m := by omega
  have N := nocurve_any w
  have w1 : IntKind.i64.wrap (10 * m) = 10 * m := by rw [IntKind.wrap_i64]; omega
  go_enter Try.func10, Try.ntmps10
  go_wp2_with fail
  refine N.mono ?_
  rintro e X0 ⟨rfl, gx⟩
  have b0 : CB (X0.alloc (.cells (cn0 m) 62)) X0.heap.size ⟨m, 0, 0, 0, 0, 0, 0, -1, 0, 0, 0, 0⟩ := Blk.new _ _ _
  obtain ⟨t, c0, c1, c2, c3, c4, c5⟩ := b0.full
  simp only at c0 c1 c2 c3 c4 c5
  have L := least_any X0.heap.size ⟨m, 0, 0, 0, 0, 0, 0, -1, 0, 0, 0, 0⟩ _ b0.drew ⟨m1, m2⟩
  have g0 := gx.trans (World.grownBy_alloc X0 (.cells (cn0 m) 62) none)
  have hle := gx.size
  have F : Hid (∀ S : Int, S = firstF m → CB (((((X0.alloc (.cells (cn0 m) 62)).setCell ⟨X0.heap.size, 2, none⟩ (.int .i64 S)).setCell ⟨X0.heap.size, 3, none⟩ (.int .i64 4611686018427387903)).setCell ⟨X0.heap.size, 4, none⟩ (.int .i64 0)).setCell ⟨X0.heap.size, 5, none⟩ (.int .i64 (-1))).drew X0.heap.size (cs0 m) ∧ w.grownBy (((((X0.alloc (.cells (cn0 m) 62)).setCell ⟨X0.heap.size, 2, none⟩ (.int .i64 S)).setCell ⟨X0.heap.size, 3, none⟩ (.int .i64 4611686018427387903)).setCell ⟨X0.heap.size, 4, none⟩ (.int .i64 0)).setCell ⟨X0.heap.size, 5, none⟩ (.int .i64 (-1))).drew none) := by
    intro S hS
    refine ⟨?_, grown_drew' (grown_set (grown_set (grown_set (grown_set g0 _ 2 _ hle) _ 3 _ hle) _ 4 _ hle) _ 5 _ hle)⟩
    rw [hS]
    exact ((((Blk.setC b0 2 (.int .i64 (firstF m))).setC 3 (.int .i64 4611686018427387903)).setC 4 (.int .i64 0)).setC 5 (.int .i64 (-1))).drew
  have HL := hide hle
  clear b0 g0 gx N hle
  go_wp2_with fail
  generalize X0.alloc _ = X at *
  generalize X0.heap.size = b at *
  go_region_held3 (fun X => X.cell? ⟨b, 0, none⟩ = some (.int .i64 m) ∧ (∀ j, X.frozen? ⟨b, j, none⟩ = false)) (simp [*, setCell_far]) (first | (go_at_call 28; refine L.mono ?_; rintro e W ⟨rfl, rfl⟩))
  all_goals go_wp2_with fail
  all_goals go_ret2
  all_goals
    refine ⟨b, rfl, unhide HL, (unhide F _ ?_).1, (unhide F _ ?_).2⟩
    all_goals
      unfold firstF
      repeat' split
      all_goals omega
end Go.Proofs.Ythpnbajhogoinaa
