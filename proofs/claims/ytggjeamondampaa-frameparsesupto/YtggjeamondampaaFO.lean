/- fits. -/
import Derived.Test.YtggjeamondampaaFN
namespace Go.Proofs.Ytggjeamondampaa
open Go.RowKit
set_option linter.unusedVariables false
set_option maxRecDepth 100000
set_option maxHeartbeats 2000000

/-- Whether a part is in its bounds, as the code reckons it. -/
def fitsW (f : Fr) (p : Nat) : Bool := if p = 11 ∨ p = 12 then decide ((f.data.length : Int) ≤ IntKind.i64.wrap (MAXN - f.offset)) else fitsF f p

theorem beq_no' {k c : Int} (h : ¬ k = c) : (k == c) = false := by simpa using h

theorem fits_flat (f : Fr) (d r : Value) (p : Nat) (w : World) (h : p = 0 ∨ p = 8) : Calls Try.prog 87 #[f.val d r, .int .i64 p] w fun e w' => e = .returned (.bool (fitsW f p)) ∧ w.grownBy w' none := by
  have g0 := World.grownBy_alloc w (.cells (f.cs d r) 26) none
  rcases h with rfl | rfl
  all_goals
    go_enter Try.func87, Try.ntmps87
    go_wp2
    go_ret
    exact ⟨rfl, g0⟩

theorem fits_zeros (f : Fr) (d r : Value) (w : World) : Calls Try.prog 87 #[f.val d r, .int .i64 14] w fun e w' => e = .returned (.bool (fitsW f 14)) ∧ w.grownBy w' none := by
  have g0 := World.grownBy_alloc w (.cells (f.cs d r) 26) none
  have e : fitsW f 14 = (decide (1 ≤ f.size) && decide (f.size ≤ 65535)) := by
    have e1 : fitsW f 14 = numb (f.size - 1) 65534 := rfl
    rw [e1]
    unfold numb
    congr 1 <;> exact decide_eq_decide.2 (by omega)
  rw [e]
  by_cases h1 : 1 ≤ f.size
  · have t1 : decide (1 ≤ f.size) = true := decide_eq_true h1
    rw [t1, Bool.true_and]
    clear e
    go_enter Try.func87, Try.ntmps87
    go_wp2
    go_ret
    exact ⟨rfl, g0⟩
  · have t1 : decide (1 ≤ f.size) = false := decide_eq_false h1
    rw [t1, Bool.false_and]
    clear e
    go_enter Try.func87, Try.ntmps87
    go_wp2
    go_ret
    exact ⟨rfl, g0⟩

theorem fits_runs (f : Fr) (d : Value) (a : Option Addr) (c : Nat) (w : World) (hr : RdR w a f.runs) (hc : f.runs.length ≤ c ∧ c ≤ 9223372036854775807) (hi : ∀ s ∈ f.runs, -9223372036854775808 ≤ s.1 ∧ s.1 ≤ 9223372036854775807) :
    Calls Try.prog 87 #[f.val d (.slice a f.runs.length c), .int .i64 9] w fun e w' => e = .returned (.bool (fitsW f 9)) ∧ w.grownBy w' none := by
  have g0 := World.grownBy_alloc w (.cells (f.cs d (.slice a f.runs.length c)) 26) none
  have hrg : RdR (w.alloc (.cells (f.cs d (.slice a f.runs.length c)) 26)) a f.runs := fun hne => by
    obtain ⟨b, off, e, hcs⟩ := hr hne
    exact ⟨b, off, e, fun i hi => ⟨cell_grown (hcs i hi).1 g0, cell_grown (hcs i hi).2 g0⟩⟩
  have har := areRuns_any a f.runs f.runs.length c _ rfl hrg hc hi
  have e : fitsW f 9 = areF f.runs := rfl
  rw [e]
  clear hrg hr hi e hc
  generalize areF f.runs = ar at *
  generalize f.runs.length = n at *
  go_enter Try.func87, Try.ntmps87
  go_wp2_with (first | (go_at_call 95; refine har.mono ?_; rintro e W1 ⟨rfl, g1⟩))
  go_ret
  exact ⟨rfl, g0.trans g1⟩

theorem fits_data (f : Fr) (r : Value) (a : Option Addr) (c p : Nat) (w : World) (h : p = 11 ∨ p = 12) : Calls Try.prog 87 #[f.val (.slice a f.data.length c) r, .int .i64 p] w fun e w' => e = .returned (.bool (fitsW f p)) ∧ w.grownBy w' none := by
  have g0 := World.grownBy_alloc w (.cells (f.cs (.slice a f.data.length c) r) 26) none
  have e : fitsW f p = decide ((f.data.length : Int) ≤ IntKind.i64.wrap (4611686018427387903 - f.offset)) := by unfold fitsW; rw [if_pos h]
  obtain ⟨q, hq⟩ : ∃ q, IntKind.i64.wrap (4611686018427387903 - f.offset) = q := ⟨_, rfl⟩
  rw [e, hq]
  clear e
  rcases h with rfl | rfl
  all_goals
    generalize f.data.length = n at *
    go_enter Try.func87, Try.ntmps87
    go_wp2
    go_ret
    exact ⟨rfl, g0⟩

theorem fits_eight (f : Fr) (r : Value) (a : Option Addr) (c : Nat) (w : World) : Calls Try.prog 87 #[f.val (.slice a f.data.length c) r, .int .i64 13] w fun e w' => e = .returned (.bool (fitsW f 13)) ∧ w.grownBy w' none := by
  have g0 := World.grownBy_alloc w (.cells (f.cs (.slice a f.data.length c) r) 26) none
  have e : fitsW f 13 = ((f.data.length : Int) == 8) := by
    have e1 : fitsW f 13 = decide (f.data.length = 8) := rfl
    rw [e1]
    by_cases h : f.data.length = 8
    · rw [h]; rfl
    · rw [decide_eq_false h, beq_no' (by omega)]
  rw [e]
  clear e
  generalize f.data.length = n at *
  go_enter Try.func87, Try.ntmps87
  go_wp2
  go_ret
  exact ⟨rfl, g0⟩

theorem fits_1 (f : Fr) (d r : Value) (w : World) : Calls Try.prog 87 #[f.val d r, .int .i64 1] w fun e w' => e = .returned (.bool (fitsW f 1)) ∧ w.grownBy w' none := by
  have g0 := World.grownBy_alloc w (.cells (f.cs d r) 26) none
  have e : fitsW f 1 = numb f.stream (mostF 1) := rfl
  rw [e]
  have hfi : ∀ W, Calls Try.prog 70 #[.pointer (some ⟨w.heap.size, 0, none⟩), .int .i64 1] W fun e w' => e = .returned (.pointer (some ⟨w.heap.size, 1, none⟩)) ∧ w' = W := fun W => field_any _ 1 W (by omega)
  have hmo : ∀ W, Calls Try.prog 93 #[.int .i64 1] W fun e w' => e = .returned (.int .i64 (mostF 1)) ∧ w' = W := fun W => most_any 1 W
  have hnu := fun W => isNumber_any f.stream (mostF 1) W
  clear e
  generalize mostF 1 = mm at *
  generalize numb f.stream mm = bb at *
  go_enter Try.func87, Try.ntmps87
  go_wp2
  go_quiet (first | exact Calls.quiet_of_same (hfi _) | exact Calls.quiet_of_same (hmo _) | exact Calls.quiet_of_same (hnu _))
  go_wp2
  go_ret
  exact ⟨rfl, grown_drewN' g0⟩

theorem fits_2 (f : Fr) (d r : Value) (w : World) : Calls Try.prog 87 #[f.val d r, .int .i64 2] w fun e w' => e = .returned (.bool (fitsW f 2)) ∧ w.grownBy w' none := by
  have g0 := World.grownBy_alloc w (.cells (f.cs d r) 26) none
  have e : fitsW f 2 = numb f.offset (mostF 2) := rfl
  rw [e]
  have hfi : ∀ W, Calls Try.prog 70 #[.pointer (some ⟨w.heap.size, 0, none⟩), .int .i64 2] W fun e w' => e = .returned (.pointer (some ⟨w.heap.size, 2, none⟩)) ∧ w' = W := fun W => field_any _ 2 W (by omega)
  have hmo : ∀ W, Calls Try.prog 93 #[.int .i64 2] W fun e w' => e = .returned (.int .i64 (mostF 2)) ∧ w' = W := fun W => most_any 2 W
  have hnu := fun W => isNumber_any f.offset (mostF 2) W
  clear e
  generalize mostF 2 = mm at *
  generalize numb f.offset mm = bb at *
  go_enter Try.func87, Try.ntmps87
  go_wp2
  go_quiet (first | exact Calls.quiet_of_same (hfi _) | exact Calls.quiet_of_same (hmo _) | exact Calls.quiet_of_same (hnu _))
  go_wp2
  go_ret
  exact ⟨rfl, grown_drewN' g0⟩

theorem fits_3 (f : Fr) (d r : Value) (w : World) : Calls Try.prog 87 #[f.val d r, .int .i64 3] w fun e w' => e = .returned (.bool (fitsW f 3)) ∧ w.grownBy w' none := by
  have g0 := World.grownBy_alloc w (.cells (f.cs d r) 26) none
  have e : fitsW f 3 = numb f.limit (mostF 3) := rfl
  rw [e]
  have hfi : ∀ W, Calls Try.prog 70 #[.pointer (some ⟨w.heap.size, 0, none⟩), .int .i64 3] W fun e w' => e = .returned (.pointer (some ⟨w.heap.size, 7, none⟩)) ∧ w' = W := fun W => field_any _ 3 W (by omega)
  have hmo : ∀ W, Calls Try.prog 93 #[.int .i64 3] W fun e w' => e = .returned (.int .i64 (mostF 3)) ∧ w' = W := fun W => most_any 3 W
  have hnu := fun W => isNumber_any f.limit (mostF 3) W
  clear e
  generalize mostF 3 = mm at *
  generalize numb f.limit mm = bb at *
  go_enter Try.func87, Try.ntmps87
  go_wp2
  go_quiet (first | exact Calls.quiet_of_same (hfi _) | exact Calls.quiet_of_same (hmo _) | exact Calls.quiet_of_same (hnu _))
  go_wp2
  go_ret
  exact ⟨rfl, grown_drewN' g0⟩

theorem fits_4 (f : Fr) (d r : Value) (w : World) : Calls Try.prog 87 #[f.val d r, .int .i64 4] w fun e w' => e = .returned (.bool (fitsW f 4)) ∧ w.grownBy w' none := by
  have g0 := World.grownBy_alloc w (.cells (f.cs d r) 26) none
  have e : fitsW f 4 = numb f.limit (mostF 4) := rfl
  rw [e]
  have hfi : ∀ W, Calls Try.prog 70 #[.pointer (some ⟨w.heap.size, 0, none⟩), .int .i64 4] W fun e w' => e = .returned (.pointer (some ⟨w.heap.size, 7, none⟩)) ∧ w' = W := fun W => field_any _ 4 W (by omega)
  have hmo : ∀ W, Calls Try.prog 93 #[.int .i64 4] W fun e w' => e = .returned (.int .i64 (mostF 4)) ∧ w' = W := fun W => most_any 4 W
  have hnu := fun W => isNumber_any f.limit (mostF 4) W
  clear e
  generalize mostF 4 = mm at *
  generalize numb f.limit mm = bb at *
  go_enter Try.func87, Try.ntmps87
  go_wp2
  go_quiet (first | exact Calls.quiet_of_same (hfi _) | exact Calls.quiet_of_same (hmo _) | exact Calls.quiet_of_same (hnu _))
  go_wp2
  go_ret
  exact ⟨rfl, grown_drewN' g0⟩

theorem fits_5 (f : Fr) (d r : Value) (w : World) : Calls Try.prog 87 #[f.val d r, .int .i64 5] w fun e w' => e = .returned (.bool (fitsW f 5)) ∧ w.grownBy w' none := by
  have g0 := World.grownBy_alloc w (.cells (f.cs d r) 26) none
  have e : fitsW f 5 = numb f.code (mostF 5) := rfl
  rw [e]
  have hfi : ∀ W, Calls Try.prog 70 #[.pointer (some ⟨w.heap.size, 0, none⟩), .int .i64 5] W fun e w' => e = .returned (.pointer (some ⟨w.heap.size, 9, none⟩)) ∧ w' = W := fun W => field_any _ 5 W (by omega)
  have hmo : ∀ W, Calls Try.prog 93 #[.int .i64 5] W fun e w' => e = .returned (.int .i64 (mostF 5)) ∧ w' = W := fun W => most_any 5 W
  have hnu := fun W => isNumber_any f.code (mostF 5) W
  clear e
  generalize mostF 5 = mm at *
  generalize numb f.code mm = bb at *
  go_enter Try.func87, Try.ntmps87
  go_wp2
  go_quiet (first | exact Calls.quiet_of_same (hfi _) | exact Calls.quiet_of_same (hmo _) | exact Calls.quiet_of_same (hnu _))
  go_wp2
  go_ret
  exact ⟨rfl, grown_drewN' g0⟩

theorem fits_6 (f : Fr) (d r : Value) (w : World) : Calls Try.prog 87 #[f.val d r, .int .i64 6] w fun e w' => e = .returned (.bool (fitsW f 6)) ∧ w.grownBy w' none := by
  have g0 := World.grownBy_alloc w (.cells (f.cs d r) 26) none
  have e : fitsW f 6 = numb f.size (mostF 6) := rfl
  rw [e]
  have hfi : ∀ W, Calls Try.prog 70 #[.pointer (some ⟨w.heap.size, 0, none⟩), .int .i64 6] W fun e w' => e = .returned (.pointer (some ⟨w.heap.size, 4, none⟩)) ∧ w' = W := fun W => field_any _ 6 W (by omega)
  have hmo : ∀ W, Calls Try.prog 93 #[.int .i64 6] W fun e w' => e = .returned (.int .i64 (mostF 6)) ∧ w' = W := fun W => most_any 6 W
  have hnu := fun W => isNumber_any f.size (mostF 6) W
  clear e
  generalize mostF 6 = mm at *
  generalize numb f.size mm = bb at *
  go_enter Try.func87, Try.ntmps87
  go_wp2
  go_quiet (first | exact Calls.quiet_of_same (hfi _) | exact Calls.quiet_of_same (hmo _) | exact Calls.quiet_of_same (hnu _))
  go_wp2
  go_ret
  exact ⟨rfl, grown_drewN' g0⟩

theorem fits_7 (f : Fr) (d r : Value) (w : World) : Calls Try.prog 87 #[f.val d r, .int .i64 7] w fun e w' => e = .returned (.bool (fitsW f 7)) ∧ w.grownBy w' none := by
  have g0 := World.grownBy_alloc w (.cells (f.cs d r) 26) none
  have e : fitsW f 7 = numb f.delay (mostF 7) := rfl
  rw [e]
  have hfi : ∀ W, Calls Try.prog 70 #[.pointer (some ⟨w.heap.size, 0, none⟩), .int .i64 7] W fun e w' => e = .returned (.pointer (some ⟨w.heap.size, 11, none⟩)) ∧ w' = W := fun W => field_any _ 7 W (by omega)
  have hmo : ∀ W, Calls Try.prog 93 #[.int .i64 7] W fun e w' => e = .returned (.int .i64 (mostF 7)) ∧ w' = W := fun W => most_any 7 W
  have hnu := fun W => isNumber_any f.delay (mostF 7) W
  clear e
  generalize mostF 7 = mm at *
  generalize numb f.delay mm = bb at *
  go_enter Try.func87, Try.ntmps87
  go_wp2
  go_quiet (first | exact Calls.quiet_of_same (hfi _) | exact Calls.quiet_of_same (hmo _) | exact Calls.quiet_of_same (hnu _))
  go_wp2
  go_ret
  exact ⟨rfl, grown_drewN' g0⟩

end Go.Proofs.Ytggjeamondampaa
