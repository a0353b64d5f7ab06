/- How a pacer fills, by numbers. -/
import Derived.Test.YtlfldbagbafjfaaUA
namespace Go.Proofs.Ytlfldbagbafjfaa
open Go.RowKit
set_option linter.unusedVariables false
set_option maxRecDepth 100000
set_option maxHeartbeats 1000000

theorem fill_same {s : Ps} (ok : s.Ok) {now : Int} (h : tmF now s = s.clock) : fillF now s = s := by
  have e : parts now s = s.rest := by unfold parts; rw [h, Int.sub_self, Int.zero_mul, Int.add_zero]
  have r := ok.r
  have l := ok.l
  have d : s.rest / s.span = 0 := Int.ediv_eq_zero_of_lt r.1 r.2
  have m : s.rest % s.span = s.rest := Int.emod_eq_of_lt r.1 r.2
  unfold fillF
  rw [e, h, d, m]
  split
  · have hl : s.left = s.burst := by omega
    have hr := ok.f hl
    obtain ⟨sb, sc, sl, sr, se, ss⟩ := s
    simp only at hl hr
    rw [hl, hr]
  · rw [Int.add_zero]
/-- What is lacking, against what flows in. -/
theorem full_iff {s : Ps} (ok : s.Ok) (now : Int) : s.burst - s.left ≤ parts now s / s.span ↔ (s.burst - s.left) * s.span - s.rest ≤ (tmF now s - s.clock) * s.rise := by
  have p := ok.p
  rw [Int.le_ediv_iff_mul_le (by omega)]
  unfold parts
  omega
theorem ceil_iff {d r l : Int} (hr : 0 < r) : (l + r - 1) / r ≤ d ↔ l ≤ d * r := by
  have e : (l + r - 1) / r < d + 1 ↔ l + r - 1 < (d + 1) * r := Int.ediv_lt_iff_lt_mul hr
  rw [Int.add_mul, Int.one_mul] at e
  generalize d * r = M at *
  constructor
  · intro h
    have := e.1 (by omega)
    omega
  · intro h
    have := e.2 (by omega)
    omega

theorem tm_old {s : Ps} (ok : s.Ok) {x : Int} (h : x ≤ s.clock) : tmF x s = s.clock := by have := ok.c; unfold tmF win; omega
theorem fill_now {s : Ps} (ok : s.Ok) {x : Int} (h : x ≤ s.clock) : fillF x s = s := fill_same ok (tm_old ok h)
/-- So much is left, just where as much has flowed in as was lacking. -/
theorem fill_ge {s : Ps} (ok : s.Ok) (now z : Int) (h1 : s.left < z) (h2 : z ≤ s.burst) : z ≤ (fillF now s).left ↔ (z - s.left) * s.span - s.rest ≤ (tmF now s - s.clock) * s.rise := by
  have p := ok.p
  have e : (z - s.left) * s.span - s.rest ≤ (tmF now s - s.clock) * s.rise ↔ z - s.left ≤ parts now s / s.span := by
    rw [Int.le_ediv_iff_mul_le (by omega)]
    unfold parts
    omega
  rw [e]
  unfold fillF
  split
  · constructor
    · intro _; omega
    · intro _; exact h2
  · show z ≤ s.left + parts now s / s.span ↔ _
    omega
/-- When it is so much: not ahead of it. -/
theorem when_ge {s : Ps} (ok : s.Ok) (now z : Int) (h1 : s.left < z) (h2 : z ≤ s.burst) (hr : s.rise ≠ 0) : z ≤ (fillF now s).left ↔ s.clock + ((z - s.left) * s.span - s.rest + s.rise - 1) / s.rise ≤ tmF now s := by
  have e := ok.e
  rw [fill_ge ok now z h1 h2, ← ceil_iff (show 0 < s.rise by omega)]
  omega
theorem when_zero {s : Ps} (ok : s.Ok) (now z : Int) (h1 : s.left < z) (h2 : z ≤ s.burst) (hr : s.rise = 0) : (fillF now s).left < z := by
  have p := ok.p
  have r := ok.r
  have k := fill_ge ok now z h1 h2
  rw [hr, Int.mul_zero] at k
  have : 1 * s.span ≤ (z - s.left) * s.span := Int.mul_le_mul_of_nonneg_right (by omega) (by omega)
  by_cases c : z ≤ (fillF now s).left
  · have := k.1 c
    omega
  · omega
end Go.Proofs.Ytlfldbagbafjfaa
