/- slices.SortFunc at spans, off the shelf. -/
import Derived.Test.YtnflbefbgcbdfaaGreatSA
import Derived.Shelf.SlSortCmp.WholeK
import Derived.Shelf.Lay
import Derived.Ground.SlsfProg
namespace Go.Proofs.YtnflbefbgcbdfaaGreat
open Go.Shelf Go.RowKit Go.Lib Go.Sort
set_option linter.unusedVariables false
set_option maxHeartbeats 400000
set_option maxRecDepth 100000

shelf_lay_g SlLaysF0.n6 Slsf 6 at Tryz 75 as Tryz.sortS

/-- A span's two cells. -/
def encS (x : Sp) : List Value := [.int .i64 x.1, .int .i64 x.2]
/-- cmp.Compare of where they begin. -/
def cmpF (x y : Sp) : Int := if x.1 < y.1 then -1 else if y.1 < x.1 then 1 else 0

theorem isNaN_any (x : Int) (w : World) :
    Calls Tryz.prog 102 #[.int .i64 x] w fun e w' => e = .returned (.bool false) ∧ w' = w := by
  go_enter Tryz.func102, Tryz.ntmps102
  go_wp2
  go_ret
  exact ⟨rfl, rfl⟩

theorem compare_any (x y : Sp) (w : World) :
    Calls Tryz.prog 77 #[.int .i64 x.1, .int .i64 y.1] w fun e w' => e = .returned (.int .i64 (cmpF x y)) ∧ w' = w := by
  obtain ⟨r, hr⟩ : ∃ r, r = cmpF x y := ⟨_, rfl⟩
  rw [← hr]
  have HR := hide hr
  clear hr
  go_enter Tryz.func77, Tryz.ntmps77
  go_wp2_with (go_at_call 102; refine (isNaN_any _ _).mono ?_; rintro e w' ⟨rfl, hw'⟩; subst w')
  all_goals go_ret
  all_goals (refine ⟨?_, rfl⟩; rw [unhide HR]; unfold cmpF; simp [*]; try omega)

theorem closure_any (x y : Sp) (W : World) : Calls Tryz.prog 76 #[.agg #[.int .i64 x.1, .int .i64 x.2], .agg #[.int .i64 y.1, .int .i64 y.2]] W fun e w' => e = .returned (.int .i64 (cmpF x y)) ∧ ∃ q os', w' = grow (W.drewN q) os' := by
  have hcon := fun W' => compare_any x y W'
  generalize cmpF x y = r at hcon ⊢
  go_enter Tryz.func76, Tryz.ntmps76
  go_wp2_with (go_at_call 77; refine (hcon _).mono ?_; rintro e w' ⟨rfl, rfl⟩)
  go_ret
  exact ⟨rfl, 0, _, by rw [alloc_eq_grow, alloc_eq_grow, grow_grow]; rfl⟩

theorem cmpLays_any (blk off size : Nat) (w : World) : CmpLays Tryz.prog 76 #[] encS 2 cmpF blk off size w :=
  fun _ _ _ _ x y => closure_any x y _

theorem ltS (x y : Sp) : ltOf cmpF x y = decide (x.1 < y.1) := by
  unfold ltOf cmpF
  by_cases h1 : x.1 < y.1
  · simp [h1]
  · by_cases h2 : y.1 < x.1 <;> simp [h1, h2]

theorem swoS : SWO (ltOf cmpF) where
  irrefl x := by rw [ltS]; simp
  trans x y z h1 h2 := by rw [ltS] at *; simp at *; omega
  ntrans x y z h1 h2 := by rw [ltS] at *; simp at *; omega
end Go.Proofs.YtnflbefbgcbdfaaGreat
