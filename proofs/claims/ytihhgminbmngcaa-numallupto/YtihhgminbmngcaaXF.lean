import Derived.Test.YtihhgminbmngcaaNC
namespace Go.Proofs.Ytihhgminbmngcaa
open Go.RowKit
set_option linter.unusedVariables false
set_option maxRecDepth 100000

/-- The least number that no longer stands in so many. -/
def firstF (n : Int) : Int := if n = 1 then 64 else if n = 2 then 16384 else if n = 4 then 1073741824 else if n = 8 then 4611686018427387904 else 0

/-- The block of the sizes. -/
def szs : Obj := .cells #[.int .i64 1, .int .i64 2, .int .i64 4, .int .i64 8] 3
def szA (k : Nat) : Int := [1, 2, 4, 8].getD k 0

theorem sizes_any (w : World) : Calls Try.prog 19 #[] w fun e w' => e = .returned (.slice (some ⟨w.heap.size, 0, none⟩) 4 4) ∧ w' = w.alloc szs := by
  go_enter Try.func19, Try.ntmps19
  go_wp2
  go_ret
  exact ⟨rfl, rfl⟩

theorem szs_cell {w : World} {g : Nat} (h : w.heap[g]? = some szs) (k : Nat) (hk : k < 4) : w.cell? ⟨g, k, none⟩ = some (.int .i64 (szA k)) := by
  unfold World.cell?
  rw [h]
  have : k = 0 ∨ k = 1 ∨ k = 2 ∨ k = 3 := by omega
  rcases this with rfl | rfl | rfl | rfl <;> rfl

end Go.Proofs.Ytihhgminbmngcaa
