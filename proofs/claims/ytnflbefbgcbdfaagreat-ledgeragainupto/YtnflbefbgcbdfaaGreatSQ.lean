/- slices.Clone; Runs; Len. -/
import Derived.Test.YtnflbefbgcbdfaaGreatSP
import Derived.BigRegion
namespace Go.Proofs.YtnflbefbgcbdfaaGreat
set_option maxRecDepth 100000
open Go.RowKit
set_option linter.unusedVariables false
set_option maxHeartbeats 400000

/-- A row that was not there. -/
def Fresh (w : World) (v : Value) : Prop := ∀ k, v.ownBlock = some k → w.heap.size ≤ k

theorem grown_fresh {w w1 w' : World} {r : Option Nat} (hg : w.grownBy w1 none) (h : w1.grownBy w' r) (hr : ∀ k, r = some k → w.heap.size ≤ k) : w.grownBy w' none :=
  ⟨h.os.trans hg.os, h.tape.trans hg.tape, h.output.trans hg.output, Nat.le_trans hg.size h.size, fun k hk _ => by
    rw [h.block k (Nat.lt_of_lt_of_le hk hg.size) (fun e => by have := hr k e.symm; omega)]
    exact hg.block k hk (by simp)⟩

theorem Moved.fresh {w w1 w' : World} {v v' : Value} (hg : w.grownBy w1 none) (hf : Fresh w v) (hm : Moved w1 w' v v') : w.grownBy w' none ∧ Fresh w v' := by
  rcases hm with ⟨h1, h2⟩ | ⟨h1, h2, h3⟩
  · exact ⟨grown_fresh hg h2 hf, fun k hk => hf k (by rw [← h1]; exact hk)⟩
  · refine ⟨grown_trans hg h2, fun k hk => ?_⟩
    rw [h1] at hk
    injection hk with hk
    have := hg.size
    omega

theorem eqnil (W : World) (a : Option Addr) (n c : Nat) : (binOp .eql 47 (.slice a n c) (.slice none 0 0)).run Tryz.prog W = .ok (.bool a.isNone) W := Lib.run_eql_slice_nil W _ _ a n c 0 0 Tryz.underlying47

theorem row_empty (w : World) : RowAt (w.alloc (.cells #[] 63)) w.heap.size 0 [] [] := ⟨heap_alloc_new w _, rfl, by simp [maxLen]⟩

/-- slices.Clone of a part of a row. -/
theorem clone_part (g o n c : Nat) (L : List Sp) (w : World) (hn : L.length = n) (hsrc : ∀ j u, (cl L)[j]? = some u → w.cell? (Addr.add ⟨g, o, none⟩ j) = some u) (hbytes : n * 16 ≤ 140737488355328) :
    Calls Tryz.prog 74 #[.slice (some ⟨g, o, none⟩) n c] w fun e w' => ∃ v', e = .returned v' ∧ Row w' v' L ∧ Fresh w v' ∧ w.grownBy w' none := by
  have hfr : Fresh w (.slice (some ⟨w.heap.size, 0, none⟩) 0 0) := fun k hk => by injection hk with hk; exact Nat.le_of_eq hk
  by_cases hn0 : n = 0
  · subst hn0
    obtain rfl := List.length_eq_zero_iff.1 hn
    have hap : ∀ ty, (Builtin.append_ #[47, 47] ty #[.slice (some ⟨w.heap.size, 0, none⟩) 0 0, .slice (some ⟨g, o, none⟩) 0 c]).run Tryz.prog (w.alloc (.cells #[] 63)) = .ok (.slice (some ⟨w.heap.size, 0, none⟩) 0 0) (w.alloc (.cells #[] 63)) := fun ty => by
      obtain ⟨inf, hi0, hz0, hz1, hz2⟩ := info_parts Tryz.infoS
      simp [Builtin.append_, run_underlying Tryz.underlying47, sizeOf, typeInfo, hi0, Builtin.lenOf, Builtin.firstCells, storeCells, loadCells, loadCellsFrom]
    clear hsrc hbytes hn
    go_enter Tryz.func74, Tryz.ntmps74
    go_wp2_with (first | simp only [eqnil, Option.isNone_some] | (at_builtin; refine wpList_append_run _ rfl _ _ 47 47 rfl _ _ rfl rfl (hap _) ?_))
    all_goals go_ret
    all_goals exact ⟨_, rfl, (row_empty w).row, hfr, grown_alloc _ _⟩
  · obtain ⟨v', w', hr, hro, hmo, hnn⟩ := app2 (w.alloc (.cells #[] 63)) _ [] L 47 (row_empty w).row ⟨g, o, none⟩ c (fun j u hj => cell_grown_none (grown_alloc _ _) (hsrc j u hj)) (fun e => by rw [e] at hn; simp at hn; omega) (by simpa [hn] using hbytes)
    rw [hn] at hr
    have hfin := hide (And.intro hro (Moved.fresh (grown_alloc w _) hfr hmo))
    have hr' : (Builtin.append_ #[47, 47] 47 #[.slice (some ⟨w.heap.size, 0, none⟩) 0 0, .slice (some ⟨g, o, none⟩) n c]).run Tryz.prog (w.alloc (.cells #[] 63)) = .ok v' w' := hr
    clear hsrc hbytes hn hr hro hmo hnn
    go_enter Tryz.func74, Tryz.ntmps74
    go_wp2_with (first | simp only [eqnil, Option.isNone_some] | (at_builtin; refine wpList_append_run _ rfl _ _ 47 47 rfl _ _ rfl rfl hr' ?_))
    all_goals go_ret
    all_goals exact ⟨_, rfl, (unhide hfin).1, (unhide hfin).2.2, (unhide hfin).2.1⟩

theorem clone_nil (w : World) (n c : Nat) : Calls Tryz.prog 74 #[.slice none n c] w fun e w' => e = .returned (.slice none 0 0) ∧ w' = w := by
  go_enter Tryz.func74, Tryz.ntmps74
  go_wp2_with (simp only [eqnil, Option.isNone_none])
  all_goals go_ret
  all_goals exact ⟨rfl, rfl⟩

theorem row_nil (w : World) : Row w (.slice none 0 0) [] := ⟨rfl, .inl ⟨rfl, rfl⟩⟩
theorem fresh_nil (w : World) : Fresh w (.slice none 0 0) := fun k hk => by cases hk

/-- slices.Clone of a row. -/
theorem clone_row (v : Value) (L : List Sp) (w : World) (h : Row w v L) (hbytes : L.length * 16 ≤ 140737488355328) :
    Calls Tryz.prog 74 #[v] w fun e w' => ∃ v', e = .returned v' ∧ Row w' v' L ∧ Fresh w v' ∧ w.grownBy w' none := by
  rcases Row.at h with ⟨rfl, rfl⟩ | ⟨g, c, sp, rfl, hR⟩
  · refine (clone_nil w 0 0).mono ?_
    rintro e w' ⟨rfl, rfl⟩
    exact ⟨_, rfl, row_nil _, fresh_nil _, grown_self _ _⟩
  · exact clone_part g 0 L.length c L w rfl (fun j u hj => by rw [Addr.add_lit, Nat.zero_add]; exact hR.cell j u hj) hbytes

end Go.Proofs.YtnflbefbgcbdfaaGreat
