/- place. -/
import Derived.Test.YtbdjlhkgpblebaaDoorHC
import Derived.Deep.QuietTactic
import Derived.Deep.RegionHeld3
import Derived.WalkMore
namespace Go.Proofs.YtbdjlhkgpblebaaDoor
open Go.RowKit
set_option linter.unusedVariables false
set_option maxRecDepth 100000

theorem max_nat (a c : Nat) : max (a : Int) (c : Int) = ((max a c : Nat) : Int) := by omega

theorem place_any (W a c : Nat) (ha : a < 2 ^ 62) (hc : c < 2 ^ 62) (w : World) (h0 : w.cell? ⟨W, 0, none⟩ = some (.int .i64 (c : Int))) :
    Calls Tryd.prog 42 #[.pointer (some ⟨W, 0, none⟩), .int .i64 a] w fun e w' => e = .returned (.tuple #[.pointer (some ⟨W, 2 + (pl c a).1 * 65, none⟩), .int .i64 ((pl c a).2 : Nat)]) ∧ ∃ q, w' = w.drewN q := by
  have hp := fun w => parting_any (max a c) c (by omega) hc w
  have hd := fun w => digit_any (max a c) (pt (max a c) c) (by omega) (pt_le (by omega) hc) w
  have hle := pt_le (a := max a c) (c := c) (by omega) hc
  have hm := max_nat a c
  simp only [pl]
  generalize dg (max a c) (pt (max a c) c) = s at *
  generalize pt (max a c) c = i at *
  generalize max a c = m at *
  have i11 : (i : Int) < 11 := by omega
  go_enter Tryd.func42, Tryd.ntmps42
  go_wp2_with fail
  refine (hp _).mono ?_
  rintro e W1 ⟨rfl, rfl⟩
  go_wp2_with fail
  go_quiet (exact Calls.quiet_of_same (hd _))
  go_wp2_with fail
  go_ret2
  exact ⟨rfl, _, rfl⟩
end Go.Proofs.YtbdjlhkgpblebaaDoor
