import Derived.Test.YtmfbbamaleagiaaDoorNC
namespace Go.Proofs.YtmfbbamaleagiaaDoor
open Go.RowKit
set_option linter.unusedVariables false
set_option maxRecDepth 100000

/-- The least number that no longer stands in so many. -/
def firstF (n : Int) : Int := if n = 1 then 64 else if n = 2 then 16384 else if n = 4 then 1073741824 else if n = 8 then 4611686018427387904 else 0

set_option maxHeartbeats 400000 in
theorem first_any (n : Int) (w : World) : Calls Tryd.prog 51 #[.int .i64 n] w fun e w' => e = .returned (.int .u64 (firstF n)) ∧ w' = w := by
  by_cases h1 : n = 1
  · subst h1
    go_enter Tryd.func51, Tryd.ntmps51
    go_wp2
    go_ret
    exact ⟨rfl, rfl⟩
  by_cases h2 : n = 2
  · subst h2
    go_enter Tryd.func51, Tryd.ntmps51
    go_wp2
    go_ret
    exact ⟨rfl, rfl⟩
  by_cases h4 : n = 4
  · subst h4
    go_enter Tryd.func51, Tryd.ntmps51
    go_wp2
    go_ret
    exact ⟨rfl, rfl⟩
  by_cases h8 : n = 8
  · subst h8
    go_enter Tryd.func51, Tryd.ntmps51
    go_wp2
    go_ret
    exact ⟨rfl, rfl⟩
  · have e1 : (n == 1) = false := by simp; omega
    have e2 : (n == 2) = false := by simp; omega
    have e4 : (n == 4) = false := by simp; omega
    have e8 : (n == 8) = false := by simp; omega
    have hf : firstF n = 0 := by unfold firstF; rw [if_neg h1, if_neg h2, if_neg h4, if_neg h8]
    have HF := hide hf
    clear hf h1 h2 h4 h8
    go_enter Tryd.func51, Tryd.ntmps51
    go_wp2
    go_ret
    exact ⟨ret_int (unhide HF).symm, rfl⟩

/-- The block of the sizes. -/
def szs : Obj := .cells #[.int .i64 1, .int .i64 2, .int .i64 4, .int .i64 8] 3
def szA (k : Nat) : Int := [1, 2, 4, 8].getD k 0

theorem sizes_any (w : World) : Calls Tryd.prog 46 #[] w fun e w' => e = .returned (.slice (some ⟨w.heap.size, 0, none⟩) 4 4) ∧ w' = w.alloc szs := by
  go_enter Tryd.func46, Tryd.ntmps46
  go_wp2
  go_ret
  exact ⟨rfl, rfl⟩

theorem szs_cell {w : World} {g : Nat} (h : w.heap[g]? = some szs) (k : Nat) (hk : k < 4) : w.cell? ⟨g, k, none⟩ = some (.int .i64 (szA k)) := by
  unfold World.cell?
  rw [h]
  have : k = 0 ∨ k = 1 ∨ k = 2 ∨ k = 3 := by omega
  rcases this with rfl | rfl | rfl | rfl <;> rfl

set_option maxHeartbeats 800000 in
theorem rsize_any (v : Int) (w : World) (v0 : 0 ≤ v) (v1 : v < 18446744073709551616) :
    Calls Tryd.prog 43 #[.int .u64 v] w fun e w' => e = .returned (.int .i64 (sizeF v)) ∧ w' = w.alloc szs := by
  have hc := szs_cell (heap_alloc_new w szs)
  have HC := hide hc
  clear hc
  go_enter Tryd.func43, Tryd.ntmps43
  go_wp2_with (go_at_call 46; refine (sizes_any _).mono ?_; rintro e w' ⟨rfl, rfl⟩)
  go_loop [4] (fun i => ∃ k : Nat, k ≤ 4 ∧ i = .int .i64 k ∧ (1 ≤ k → 64 ≤ v) ∧ (2 ≤ k → 16384 ≤ v) ∧ (3 ≤ k → 1073741824 ≤ v) ∧ (4 ≤ k → 4611686018427387904 ≤ v)) (fun i => 4 - (intOf i).toNat)
  case atStart => exact ⟨0, by omega, rfl, by omega, by omega, by omega, by omega⟩
  case round =>
    obtain ⟨k, hk, rfl, g1, g2, g3, g4⟩ := hrel
    have : k = 0 ∨ k = 1 ∨ k = 2 ∨ k = 3 ∨ k = 4 := by omega
    rcases this with rfl | rfl | rfl | rfl | rfl
    · have hc0 : (w.alloc szs).cell? ⟨w.heap.size, 0, none⟩ = some (.int .i64 1) := (unhide HC) 0 (by omega)
      by_cases hv : v < 64
      · go_wp2_with (go_at_call 51; refine (first_any _ _).mono ?_; rintro e w' ⟨rfl, rfl⟩; rw [show firstF 1 = 64 from rfl])
        go_ret
        exact ⟨ret_int (by unfold sizeF; rw [if_pos hv]; rfl), rfl⟩
      · go_wp2_with (go_at_call 51; refine (first_any _ _).mono ?_; rintro e w' ⟨rfl, rfl⟩; rw [show firstF 1 = 64 from rfl])
        go_round
        case rel => exact ⟨1, by omega, rfl, by omega, by omega, by omega, by omega⟩
        case measure => simp [intOf]
    · have hc0 : (w.alloc szs).cell? ⟨w.heap.size, 1, none⟩ = some (.int .i64 2) := (unhide HC) 1 (by omega)
      have g1' := g1 (by omega)
      clear g1 g2 g3 g4
      by_cases hv : v < 16384
      · go_wp2_with (go_at_call 51; refine (first_any _ _).mono ?_; rintro e w' ⟨rfl, rfl⟩; rw [show firstF 2 = 16384 from rfl])
        go_ret
        exact ⟨ret_int (by unfold sizeF; rw [if_neg (by omega), if_pos hv]; rfl), rfl⟩
      · go_wp2_with (go_at_call 51; refine (first_any _ _).mono ?_; rintro e w' ⟨rfl, rfl⟩; rw [show firstF 2 = 16384 from rfl])
        go_round
        case rel => exact ⟨2, by omega, rfl, by omega, by omega, by omega, by omega⟩
        case measure => simp [intOf]
    · have hc0 : (w.alloc szs).cell? ⟨w.heap.size, 2, none⟩ = some (.int .i64 4) := (unhide HC) 2 (by omega)
      have g1' := g2 (by omega)
      clear g1 g2 g3 g4
      by_cases hv : v < 1073741824
      · go_wp2_with (go_at_call 51; refine (first_any _ _).mono ?_; rintro e w' ⟨rfl, rfl⟩; rw [show firstF 4 = 1073741824 from rfl])
        go_ret
        exact ⟨ret_int (by unfold sizeF; rw [if_neg (by omega), if_neg (by omega), if_pos hv]; rfl), rfl⟩
      · go_wp2_with (go_at_call 51; refine (first_any _ _).mono ?_; rintro e w' ⟨rfl, rfl⟩; rw [show firstF 4 = 1073741824 from rfl])
        go_round
        case rel => exact ⟨3, by omega, rfl, by omega, by omega, by omega, by omega⟩
        case measure => simp [intOf]
    · have hc0 : (w.alloc szs).cell? ⟨w.heap.size, 3, none⟩ = some (.int .i64 8) := (unhide HC) 3 (by omega)
      have g1' := g3 (by omega)
      clear g1 g2 g3 g4
      by_cases hv : v < 4611686018427387904
      · go_wp2_with (go_at_call 51; refine (first_any _ _).mono ?_; rintro e w' ⟨rfl, rfl⟩; rw [show firstF 8 = 4611686018427387904 from rfl])
        go_ret
        exact ⟨ret_int (by unfold sizeF; rw [if_neg (by omega), if_neg (by omega), if_neg (by omega), if_pos (by omega)]; rfl), rfl⟩
      · go_wp2_with (go_at_call 51; refine (first_any _ _).mono ?_; rintro e w' ⟨rfl, rfl⟩; rw [show firstF 8 = 4611686018427387904 from rfl])
        go_round
        case rel => exact ⟨4, by omega, rfl, by omega, by omega, by omega, by omega⟩
        case measure => simp [intOf]
    · have g1' := g4 (by omega)
      clear g1 g2 g3 g4
      go_wp2
      go_ret
      exact ⟨ret_int (by unfold sizeF; rw [if_neg (by omega), if_neg (by omega), if_neg (by omega), if_neg (by omega)]; rfl), rfl⟩
end Go.Proofs.YtmfbbamaleagiaaDoor
