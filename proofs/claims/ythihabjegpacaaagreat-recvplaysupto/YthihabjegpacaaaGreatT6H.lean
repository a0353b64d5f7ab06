/- slices.Clone of pieces. -/
import Derived.Test.YthihabjegpacaaaGreatT6G
import Derived.Test.YthihabjegpacaaaGreatSQ
namespace Go.Proofs.YthihabjegpacaaaGreat.Pq
open Go.RowKit
set_option linter.unusedVariables false
set_option maxHeartbeats 400000
set_option maxRecDepth 100000

theorem eqnil (W : World) (a : Option Addr) (n c : Nat) : (binOp .eql 51 (.slice a n c) (.slice none 0 0)).run Tryz.prog W = .ok (.bool a.isNone) W := Lib.run_eql_slice_nil W _ _ a n c 0 0 Tryz.underlying51

theorem row_empty (w : World) : RowAt (w.alloc (.cells #[] 88)) w.heap.size [] 0 [] [] := ⟨heap_alloc_new w _, rfl, by simp [maxLen]⟩

/-- slices.Clone of a part of a row. -/
theorem clone_part (g o n c : Nat) (L : List Pc) (w : World) (hn : L.length = n) (hsrc : ∀ j u, (cl L)[j]? = some u → w.cell? (Addr.add ⟨g, o, none⟩ j) = some u) (hbytes : n * 32 ≤ 140737488355328) :
    Calls Tryz.prog 46 #[.slice (some ⟨g, o, none⟩) n c] w fun e w' => ∃ v', e = .returned v' ∧ Row w' v' L ∧ Fresh w v' ∧ w.grownBy w' none := by
  have hfr : Fresh w (.slice (some ⟨w.heap.size, 0, none⟩) 0 0) := fun k hk => by injection hk with hk; exact Nat.le_of_eq hk
  by_cases hn0 : n = 0
  · subst hn0
    obtain rfl := List.length_eq_zero_iff.1 hn
    have hap : ∀ ty, (Builtin.append_ #[51, 51] ty #[.slice (some ⟨w.heap.size, 0, none⟩) 0 0, .slice (some ⟨g, o, none⟩) 0 c]).run Tryz.prog (w.alloc (.cells #[] 88)) = .ok (.slice (some ⟨w.heap.size, 0, none⟩) 0 0) (w.alloc (.cells #[] 88)) := fun ty => by
      obtain ⟨inf, hi0, hz0, hz1, hz2⟩ := info_parts Tryz.infoP
      simp [Builtin.append_, run_underlying Tryz.underlying51, sizeOf, typeInfo, hi0, Builtin.lenOf, Builtin.firstCells, storeCells, loadCells, loadCellsFrom]
    clear hsrc hbytes hn
    go_enter Tryz.func46, Tryz.ntmps46
    go_wp2_with (first | simp only [eqnil, Option.isNone_some] | (at_builtin; refine wpList_append_run _ rfl _ _ 51 51 rfl _ _ rfl rfl (hap _) ?_))
    all_goals go_ret
    all_goals exact ⟨_, rfl, (row_empty w).row, hfr, grown_alloc _ _⟩
  · obtain ⟨v', w', hr, hro, hmo, hnn⟩ := app2 (w.alloc (.cells #[] 88)) _ [] L 51 (row_empty w).row ⟨g, o, none⟩ c (fun j u hj => cell_grown_none (grown_alloc _ _) (hsrc j u hj)) (fun e => by rw [e] at hn; simp at hn; omega) (by simpa [hn] using hbytes)
    rw [hn] at hr
    have hfin := hide (And.intro hro (Moved.fresh (grown_alloc w _) hfr hmo))
    have hr' : (Builtin.append_ #[51, 51] 51 #[.slice (some ⟨w.heap.size, 0, none⟩) 0 0, .slice (some ⟨g, o, none⟩) n c]).run Tryz.prog (w.alloc (.cells #[] 88)) = .ok v' w' := hr
    clear hsrc hbytes hn hr hro hmo hnn
    go_enter Tryz.func46, Tryz.ntmps46
    go_wp2_with (first | simp only [eqnil, Option.isNone_some] | (at_builtin; refine wpList_append_run _ rfl _ _ 51 51 rfl _ _ rfl rfl hr' ?_))
    all_goals go_ret
    all_goals exact ⟨_, rfl, (unhide hfin).1, (unhide hfin).2.2, (unhide hfin).2.1⟩

theorem clone_nil (w : World) (n c : Nat) : Calls Tryz.prog 46 #[.slice none n c] w fun e w' => e = .returned (.slice none 0 0) ∧ w' = w := by
  go_enter Tryz.func46, Tryz.ntmps46
  go_wp2_with (simp only [eqnil, Option.isNone_none])
  all_goals go_ret
  all_goals exact ⟨rfl, rfl⟩
end Go.Proofs.YthihabjegpacaaaGreat.Pq
