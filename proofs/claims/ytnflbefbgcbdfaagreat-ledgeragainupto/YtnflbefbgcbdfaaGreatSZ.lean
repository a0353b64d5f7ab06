/- Cut of what meets. -/
import Derived.Test.YtnflbefbgcbdfaaGreatSY
import Derived.Deep.RegionHeld3
namespace Go.Proofs.YtnflbefbgcbdfaaGreat
set_option maxRecDepth 100000
open Go.RowKit
set_option linter.unusedVariables false
set_option maxHeartbeats 400000

theorem two_new (U : World) (a b c d : Value) : U.grownBy ((U.alloc (.cells #[a, b] 63)).alloc (.cells #[c, d] 63)).drew none ∧ ((U.alloc (.cells #[a, b] 63)).alloc (.cells #[c, d] 63)).drew.cell? ⟨U.heap.size, 0, none⟩ = some a ∧ ((U.alloc (.cells #[a, b] 63)).alloc (.cells #[c, d] 63)).drew.cell? ⟨U.heap.size, 1, none⟩ = some b ∧ ((U.alloc (.cells #[a, b] 63)).alloc (.cells #[c, d] 63)).drew.cell? ⟨U.heap.size + 1, 0, none⟩ = some c ∧ ((U.alloc (.cells #[a, b] 63)).alloc (.cells #[c, d] 63)).drew.cell? ⟨U.heap.size + 1, 1, none⟩ = some d := by
  have h1 : (U.alloc (.cells #[a, b] 63)).heap[U.heap.size]? = some (.cells #[a, b] 63) := heap_alloc_new U _
  have h2 := heap_alloc_new (U.alloc (.cells #[a, b] 63)) (.cells #[c, d] 63)
  have e : (U.alloc (.cells #[a, b] 63)).heap.size = U.heap.size + 1 := by simp
  rw [e] at h2
  have h3 := (grown_alloc (U.alloc (.cells #[a, b] 63)) (.cells #[c, d] 63)).block U.heap.size (by simp) (by simp)
  rw [h1] at h3
  exact ⟨grown_trans (grown_trans (grown_alloc _ _) (grown_alloc _ _)) (grown_drewN _ 1), (box2 h3).1, (box2 h3).2, (box2 h2).1, (box2 h2).2⟩

theorem app_rest (X W : World) (rv : Value) (H : List Sp) (x y : Int) (hrow : Row W rv H) (hH : H.length ≤ 1) (hf : Fresh X rv) (hg : X.grownBy W none) :
    ∃ v' w', (∀ ty, (Builtin.append_ #[47, 47] ty #[rv, .slice (some ⟨W.heap.size, 0, none⟩) 1 1]).run Tryz.prog (W.alloc (.cells #[.int .i64 x, .int .i64 y] 63)) = .ok v' w') ∧ Row w' v' (H ++ [(x, y)]) ∧ Fresh X v' ∧ X.grownBy w' none := by
  obtain ⟨v', w', hr, hro, hmo, _⟩ := app_one W rv H x y 47 hrow (by omega)
  have := Moved.fresh (grown_trans hg (grown_alloc _ _)) hf hmo
  exact ⟨v', w', fun _ => hr, hro, this.2, this.1⟩

/-- Replace, once the rest is made. -/
theorem cut_end {w X W : World} {b : Nat} {most : Int} {v rv : Value} {A M D V : List Sp} (h0 : SetAt w b most v (A ++ (M ++ D))) (hL : Ok (A ++ (M ++ D))) (hgX : w.grownBy X none) (hgW : X.grownBy W none) (hV : V.length ≤ 2) (hrv : Row W rv V) (hnil : V = [] → rv = .slice none 0 0) (hf : Fresh X rv) :
    Calls Tryz.prog 70 #[v, .int .i64 A.length, .int .i64 ((A.length + M.length : Nat) : Int), rv] W fun e w' => ∃ v', e = .returned v' ∧ CutPost W w' b most v v' (A ++ (V ++ D)) :=
  cut_replace W b most v rv A M D V (h0.keep (grown_trans hgX hgW)) hL hV hrv hnil (fun k hk e => by have := hf k hk; have := h0.row.blk_lt k e; have := hgX.size; omega)

end Go.Proofs.YtnflbefbgcbdfaaGreat
