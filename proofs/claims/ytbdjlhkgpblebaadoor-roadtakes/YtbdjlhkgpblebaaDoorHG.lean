/- The order of deadlines: Compare, Or, ahead, the closure of inOrder. -/
import Derived.Test.YtbdjlhkgpblebaaDoorHM
import Derived.Shelf.SlSortCmp.Whole1
import Derived.Shelf.SlSortCmp.QuietGrown
import Derived.Deep.RegionHeld3
import Derived.LoopIn
namespace Go.Proofs.YtbdjlhkgpblebaaDoor
open Go.RowKit Go.Shelf Go.Lib Go.Sort
set_option linter.unusedVariables false
set_option maxRecDepth 100000

def cmpI (x y : Nat) : Int := if x < y then -1 else if y < x then 1 else 0
/-- Which deadline is ahead: by time, then by number. -/
def ahI (a b : Nd) : Int := if cmpI a.at_ b.at_ ≠ 0 then cmpI a.at_ b.at_ else cmpI a.id b.id

theorem isNaN64 (x : Int) (w : World) : Calls Tryd.prog 48 #[.int .i64 x] w fun e w' => e = .returned (.bool false) ∧ w' = w := by
  go_enter Tryd.func48, Tryd.ntmps48
  go_wp2
  go_ret
  exact ⟨rfl, rfl⟩
theorem isNaNi (x : Int) (w : World) : Calls Tryd.prog 49 #[.int .i64 x] w fun e w' => e = .returned (.bool false) ∧ w' = w := by
  go_enter Tryd.func49, Tryd.ntmps49
  go_wp2
  go_ret
  exact ⟨rfl, rfl⟩
theorem compare64 (x y : Nat) (w : World) : Calls Tryd.prog 37 #[.int .i64 x, .int .i64 y] w fun e w' => e = .returned (.int .i64 (cmpI x y)) ∧ w' = w := by
  obtain ⟨r, hr⟩ : ∃ r, r = cmpI x y := ⟨_, rfl⟩
  rw [← hr]
  have HR := hide hr
  clear hr
  go_enter Tryd.func37, Tryd.ntmps37
  go_wp2_with (go_at_call 48; refine (isNaN64 _ _).mono ?_; rintro e w' ⟨rfl, hw'⟩; subst w')
  all_goals go_ret
  all_goals (refine ⟨?_, rfl⟩; rw [unhide HR]; unfold cmpI; simp [*]; try omega)
theorem comparei (x y : Nat) (w : World) : Calls Tryd.prog 38 #[.int .i64 x, .int .i64 y] w fun e w' => e = .returned (.int .i64 (cmpI x y)) ∧ w' = w := by
  obtain ⟨r, hr⟩ : ∃ r, r = cmpI x y := ⟨_, rfl⟩
  rw [← hr]
  have HR := hide hr
  clear hr
  go_enter Tryd.func38, Tryd.ntmps38
  go_wp2_with (go_at_call 49; refine (isNaNi _ _).mono ?_; rintro e w' ⟨rfl, hw'⟩; subst w')
  all_goals go_ret
  all_goals (refine ⟨?_, rfl⟩; rw [unhide HR]; unfold cmpI; simp [*]; try omega)

theorem or2 (p q : Int) (g : Nat) (w : World) (h0 : w.cell? ⟨g, 0, none⟩ = some (.int .i64 p)) (h1 : w.cell? ⟨g, 1, none⟩ = some (.int .i64 q)) :
    Calls Tryd.prog 36 #[.slice (some ⟨g, 0, none⟩) 2 2] w fun e w' => e = .returned (.int .i64 (if p ≠ 0 then p else q)) ∧ w' = w := by
  obtain ⟨r, hr⟩ : ∃ r, r = if p ≠ 0 then p else q := ⟨_, rfl⟩
  rw [← hr]
  have HR := hide hr
  clear hr
  go_enter Tryd.func36, Tryd.ntmps36
  go_wp2_with fail
  go_loopw [8] (fun i wr => ∃ k : Nat, k ≤ 2 ∧ i = .int .i64 k ∧ (1 ≤ k → p = 0) ∧ (2 ≤ k → q = 0) ∧ wr = w) (fun i _ => 2 - (intOf i).toNat)
  case atStart => exact ⟨0, Nat.zero_le _, rfl, by omega, by omega, rfl⟩
  case round =>
    obtain ⟨k, hk, rfl, hp, hq, rfl⟩ := hrel
    rcases (show k = 0 ∨ k = 1 ∨ k = 2 by omega) with rfl | rfl | rfl
    · by_cases c : p = 0
      · have cb : (p != 0) = false := by simp [c]
        go_wp2_with fail
        exact ⟨⟨1, by omega, by go_num, fun _ => c, by omega, trivial⟩, by simp [intOf]⟩
      · have cb : (p != 0) = true := by simp [c]
        go_wp2_with fail
        go_ret
        exact ⟨by rw [unhide HR, if_pos c]; rfl, rfl⟩
    · have p0 := hp (Nat.le_refl _)
      have HP := hide p0
      clear p0 hp
      by_cases c : q = 0
      · have cb : (q != 0) = false := by simp [c]
        go_wp2_with fail
        exact ⟨⟨2, by omega, by go_num, fun _ => unhide HP, fun _ => c, trivial⟩, by simp [intOf]⟩
      · have cb : (q != 0) = true := by simp [c]
        go_wp2_with fail
        go_ret
        exact ⟨by rw [unhide HR, if_neg (by simp [unhide HP])]; rfl, rfl⟩
    · have E := hide (show r = 0 by rw [unhide HR, hp (by omega), hq (by omega)]; rfl)
      clear hp hq
      go_wp2_with fail
      go_ret
      exact ⟨by rw [unhide E]; rfl, rfl⟩

theorem ahead_any (a b : Nd) (w : World) : Calls Tryd.prog 67 #[.agg #[.int .i64 a.id, .int .i64 a.at_], .agg #[.int .i64 b.id, .int .i64 b.at_]] w fun e w' => e = .returned (.int .i64 (ahI a b)) ∧ ∃ q os, w' = grow (w.drewN q) os := by
  obtain ⟨bA, bB, gA⟩ := Blk.two w #[.int .i64 a.id, .int .i64 a.at_] #[.int .i64 b.id, .int .i64 b.at_] 79 79
  have a0 := bA.cell 0 (.int .i64 a.id) rfl
  have a1 := bA.cell 1 (.int .i64 a.at_) rfl
  have b0 := bB.cell 0 (.int .i64 b.id) rfl
  have b1 := bB.cell 1 (.int .i64 b.at_) rfl
  have hc1 := fun W => compare64 a.at_ b.at_ W
  have hc2 := fun W => comparei a.id b.id W
  unfold ahI
  generalize cmpI a.at_ b.at_ = p at *
  generalize cmpI a.id b.id = q at *
  have bC := (Blk.new ((w.alloc (.cells #[.int .i64 a.id, .int .i64 a.at_] 79)).alloc (.cells #[.int .i64 b.id, .int .i64 b.at_] 79)) #[.int .i64 p, .int .i64 q] 3)
  rw [alloc_size, alloc_size] at bC
  have ho := or2 p q (w.heap.size + 1 + 1) _ (bC.drew.cell 0 (.int .i64 p) rfl) (bC.drew.cell 1 (.int .i64 q) rfl)
  clear bC
  generalize (if p ≠ 0 then p else q) = r at *
  clear bA bB gA
  go_enter Tryd.func67, Tryd.ntmps67
  go_wp2_with fail
  go_region_held3 (fun W => W.cell? ⟨w.heap.size, 0, none⟩ = some (.int .i64 a.id) ∧ W.cell? ⟨w.heap.size, 1, none⟩ = some (.int .i64 a.at_) ∧ W.cell? ⟨w.heap.size + 1, 0, none⟩ = some (.int .i64 b.id) ∧ W.cell? ⟨w.heap.size + 1, 1, none⟩ = some (.int .i64 b.at_)) (go_keep) (first
    | (go_at_call 37; refine (hc1 _).mono ?_; rintro e W2 ⟨rfl, hw⟩; subst hw)
    | (go_at_call 38; refine (hc2 _).mono ?_; rintro e W2 ⟨rfl, hw⟩; subst hw)
    | (go_at_call 36; refine ho.mono ?_; rintro e W2 ⟨rfl, hw⟩; subst hw))
  go_wp2_with fail
  go_ret
  exact ⟨rfl, 1, _, by rw [alloc_eq_grow, alloc_eq_grow, alloc_eq_grow, grow_grow, grow_grow]; rfl⟩

/-- The closure that sorts, in whatever world holds the two nodes. -/
theorem by_any (a b : Nd) (w : World) (a0 : w.cell? ⟨a.g, 0, none⟩ = some (.int .i64 a.id)) (a1 : w.cell? ⟨a.g, 1, none⟩ = some (.int .i64 a.at_)) (b0 : w.cell? ⟨b.g, 0, none⟩ = some (.int .i64 b.id)) (b1 : w.cell? ⟨b.g, 1, none⟩ = some (.int .i64 b.at_)) :
    Calls Tryd.prog 66 #[ptr a.g, ptr b.g] w fun e w' => e = .returned (.int .i64 (ahI a b)) ∧ ∃ q os, w' = grow (w.drewN q) os := by
  have hc := fun W => ahead_any a b W
  generalize ahI a b = r at *
  go_enter Tryd.func66, Tryd.ntmps66
  go_wp2_with fail
  go_region_held3 (fun W => W.cell? ⟨a.g, 0, none⟩ = some (.int .i64 a.id) ∧ W.cell? ⟨a.g, 1, none⟩ = some (.int .i64 a.at_) ∧ W.cell? ⟨b.g, 0, none⟩ = some (.int .i64 b.id) ∧ W.cell? ⟨b.g, 1, none⟩ = some (.int .i64 b.at_)) (go_keep) (first
    | (go_at_call 67; refine (hc _).mono ?_; rintro e W2 ⟨rfl, q, os, hw⟩; subst hw; have z0 := Go.cell_grown (World.block_lt_of_cell? w _ a0) a0 (1 + q) os; have z1 := Go.cell_grown (World.block_lt_of_cell? w _ a1) a1 (1 + q) os; have z2 := Go.cell_grown (World.block_lt_of_cell? w _ b0) b0 (1 + q) os; have z3 := Go.cell_grown (World.block_lt_of_cell? w _ b1) b1 (1 + q) os))
  go_wp2_with fail
  go_ret
  exact ⟨rfl, 1 + q, os, rfl⟩
end Go.Proofs.YtbdjlhkgpblebaaDoor
