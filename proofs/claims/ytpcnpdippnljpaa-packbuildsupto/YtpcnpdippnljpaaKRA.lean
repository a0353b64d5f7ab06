/- Layer 3, by definition, for the packets. -/
import Derived.Test.YtpcnpdippnljpaaKQE
import Derived.Test.YtpcnpdippnljpaaKD
namespace Go.Proofs.Ytpcnpdippnljpaa
open Go.RowKit
set_option maxRecDepth 100000
set_option linter.unusedVariables false
theorem refStretch_1 (m : Nat) (w : World) (h1 : 1 ≤ m ∧ m ≤ 4) :
    Calls Try.prog 62 #[.int .i64 m] w fun r w' => r = .returned (.int .i64 (256 ^ m)) ∧ w' = w := by
  have HM := hide h1
  clear h1
  go_enter Try.func62, Try.ntmps62
  go_wp2
  go_loopw [3, 4] (fun s i wr => ∃ k : Nat, k ≤ m ∧ i = .int .i64 k ∧ s = .int .i64 (256 ^ k) ∧ wr = w) (fun _ i _ => m - (intOf i).toNat)
  case atStart => exact ⟨0, by omega, rfl, rfl, rfl⟩
  case round =>
    obtain ⟨k, hk, rfl, rfl, rfl⟩ := hrel
    have hm := unhide HM
    by_cases hlt : k < m
    · have hw : IntKind.i64.wrap (256 * 256 ^ k) = 256 ^ (k + 1) := by
        obtain rfl | rfl | rfl | rfl : k = 0 ∨ k = 1 ∨ k = 2 ∨ k = 3 := by omega
        all_goals rfl
      have hkm : (k : Int) < (m : Int) := by omega
      generalize (256 : Int) ^ k = p at *
      generalize hp1 : (256 : Int) ^ (k + 1) = p1 at *
      have HP := hide hp1
      clear hp1
      have HL := hide hlt
      clear hlt hk
      go_wp2
      exact ⟨⟨k + 1, unhide HL, by go_num, by rw [← unhide HP]; exact ⟨rfl, trivial⟩⟩, by simp [intOf]; have := unhide HL; omega⟩
    · obtain rfl : k = m := by omega
      go_wp2
      go_ret
      exact ⟨rfl, rfl⟩

theorem refStretch_any (n : Int) (w : World) (h1 : 1 ≤ n ∧ n ≤ 4) :
    Calls Try.prog 62 #[.int .i64 n] w fun r w' => r = .returned (.int .i64 (st n)) ∧ w' = w := by
  obtain rfl | rfl | rfl | rfl : n = 1 ∨ n = 2 ∨ n = 3 ∨ n = 4 := by omega
  · exact refStretch_1 1 w (by omega)
  · exact refStretch_1 2 w (by omega)
  · exact refStretch_1 3 w (by omega)
  · exact refStretch_1 4 w (by omega)

theorem refCut_bad (n w : Int) (W : World) (hb : n < 0 ∨ 4611686018427387903 < n ∨ w < 1 ∨ 4 < w) :
    Calls Try.prog 47 #[.int .i64 n, .int .i64 w] W fun r w' => r = .returned (.tuple #[.int .u32 0, .int .i64 1]) ∧ w' = W := by
  go_enter Try.func47, Try.ntmps47
  go_wp2_with fail
  all_goals go_ret2
  all_goals exact ⟨rfl, rfl⟩

theorem refCut_good (n w : Int) (W : World) (h1 : 0 ≤ n) (h2 : n ≤ 4611686018427387903) (hw : 1 ≤ w ∧ w ≤ 4) :
    Calls Try.prog 47 #[.int .i64 n, .int .i64 w] W fun r w' => r = .returned (.tuple #[.int .u32 (n % st w), .int .i64 0]) ∧ w' = W := by
  have c3 := refStretch_any w W hw
  obtain rfl | rfl | rfl | rfl : w = 1 ∨ w = 2 ∨ w = 3 ∨ w = 4 := by omega
  all_goals first
    | rw [show st 1 = 256 from rfl] at *
    | rw [show st 2 = 65536 from rfl] at *
    | rw [show st 3 = 16777216 from rfl] at *
    | rw [show st 4 = 4294967296 from rfl] at *
  all_goals
    go_enter Try.func47, Try.ntmps47
    go_wp2_with (go_at_call 62; refine c3.mono ?_; rintro e w' ⟨rfl, hw'⟩; subst w')
    go_ret2
    exact ⟨rfl, rfl⟩
end Go.Proofs.Ytpcnpdippnljpaa
