/- The program's functions: within, amount, inflow, fill. -/
import Derived.Test.YtlfldbagbafjfaaUA
namespace Go.Proofs.Ytlfldbagbafjfaa
open Go.RowKit
set_option linter.unusedVariables false
set_option maxRecDepth 100000
set_option maxHeartbeats 2000000

theorem drewN_grown (w : World) (q : Nat) : w.grownBy (w.drewN q) none := ⟨rfl, rfl, rfl, Nat.le_refl _, fun _ _ _ => rfl⟩
theorem gtrans {w1 w2 w3 : World} {r : Option Nat} (g : w1.grownBy w2 r) (h : w2.grownBy w3 r) : w1.grownBy w3 r := g.trans h
theorem drewS {w W : World} {b : Nat} (g : w.grownBy W (some b)) : w.grownBy W.drew (some b) := ⟨g.os, g.tape, g.output, g.size, g.block⟩

theorem within_any (x a b : Int) (w : World) : Calls Try.prog 23 #[.int .i64 x, .int .i64 a, .int .i64 b] w fun e w' => e = .returned (.int .i64 (win x a b)) ∧ w' = w := by
  have E : Hid (∀ y, y = min (max x a) b → win x a b = y) := by rintro y rfl; rfl
  by_cases h1 : x < a
  · by_cases h2 : a < b
    · go_enter Try.func23, Try.ntmps23
      go_wp2
      all_goals go_ret
      all_goals exact ⟨ret_eq (E _ (by omega)), rfl⟩
    · go_enter Try.func23, Try.ntmps23
      go_wp2
      all_goals go_ret
      all_goals exact ⟨ret_eq (E _ (by omega)), rfl⟩
  · by_cases h2 : x < b
    · go_enter Try.func23, Try.ntmps23
      go_wp2
      all_goals go_ret
      all_goals exact ⟨ret_eq (E _ (by omega)), rfl⟩
    · go_enter Try.func23, Try.ntmps23
      go_wp2
      all_goals go_ret
      all_goals exact ⟨ret_eq (E _ (by omega)), rfl⟩

theorem into_any (x a b : Int) (hab : a ≤ b) (w : World) : Calls Try.prog 25 #[.int .i64 x, .int .i64 a, .int .i64 b] w fun e w' => e = .returned (.int .i64 (win x a b)) ∧ w' = w := by
  by_cases h1 : x < a
  · have E : Hid (win x a b = a) := by show _ = _; unfold win; omega
    go_enter Try.func25, Try.ntmps25
    go_wp2
    go_ret
    exact ⟨ret_eq E, rfl⟩
  · by_cases h2 : b < x
    · have E : Hid (win x a b = b) := by show _ = _; unfold win; omega
      go_enter Try.func25, Try.ntmps25
      go_wp2
      go_ret
      exact ⟨ret_eq E, rfl⟩
    · have E : Hid (win x a b = x) := by show _ = _; unfold win; omega
      go_enter Try.func25, Try.ntmps25
      go_wp2
      go_ret
      exact ⟨ret_eq E, rfl⟩

theorem amount_any (b : Nat) (s : Ps) (x : Int) (w : World) (h : PB w b s) : Calls Try.prog 26 #[ptr b, .int .i64 x] w fun e w' => e = .returned (.int .i64 (win x 0 s.burst)) ∧ w' = w := by
  have hw := within_any x 0 s.burst w
  obtain ⟨t, c0, -⟩ := h.full
  clear h
  go_enter Try.func26, Try.ntmps26
  go_wp2_with fail
  refine hw.mono ?_
  rintro e W ⟨rfl, rfl⟩
  go_wp2_with fail
  go_ret
  exact ⟨rfl, rfl⟩

def inflF (d : Int) (s : Ps) : Int × Int := if s.span ≤ (s.rest + d * s.rise) / 18446744073709551616 then (18446744073709551615, 0) else ((s.rest + d * s.rise) / s.span, (s.rest + d * s.rise) % s.span)

theorem inflow_any (b : Nat) (s : Ps) (d : Int) (w : World) (h : PB w b s) (ok : s.Ok) (hd : inT d) : Calls Try.prog 28 #[ptr b, .int .i64 d] w fun e w' => e = .returned (.tuple #[.int .u64 (inflF d s).1, .int .u64 (inflF d s).2]) ∧ ∃ q, w' = w.drewN q := by
  obtain ⟨t, -, -, -, c3, c4, c5⟩ := h.full
  obtain ⟨d1, d2⟩ := hd
  obtain ⟨e1, e2⟩ := ok.e
  obtain ⟨p1, p2⟩ := ok.p
  obtain ⟨r1, r2⟩ := ok.r
  have pr0 : 0 ≤ d * s.rise := Int.mul_nonneg d1 e1
  have hm := mul64_any d s.rise ⟨d1, by omega⟩ ⟨e1, by omega⟩ w
  have ha := add64_run (d * s.rise % 18446744073709551616) s.rest (Int.emod_nonneg _ (by decide)) r1 w
  have E1 : (d * s.rise % 18446744073709551616 + s.rest) % 18446744073709551616 = (s.rest + d * s.rise) % 18446744073709551616 := by omega
  have E2 : IntKind.u64.wrap (d * s.rise / 18446744073709551616 + (d * s.rise % 18446744073709551616 + s.rest) / 18446744073709551616) = (s.rest + d * s.rise) / 18446744073709551616 := by
    have : d * s.rise ≤ 1125899906842624 * 5497558138880 := Int.mul_le_mul d2 e2 e1 (by decide)
    rw [IntKind.wrap_u64]
    omega
  have n0 : 0 ≤ s.rest + d * s.rise := by omega
  have wd : IntKind.u64.wrap d = d := by rw [IntKind.wrap_u64]; omega
  have wr : IntKind.u64.wrap s.rise = s.rise := by rw [IntKind.wrap_u64]; omega
  have wt : IntKind.u64.wrap s.rest = s.rest := by rw [IntKind.wrap_u64]; omega
  have wp : IntKind.u64.wrap s.span = s.span := by rw [IntKind.wrap_u64]; omega
  have HI : 0 ≤ (s.rest + d * s.rise) / 18446744073709551616 := Int.ediv_nonneg n0 (by decide)
  have hd := fun hlt : (s.rest + d * s.rise) / 18446744073709551616 < s.span => div64_any ((s.rest + d * s.rise) / 18446744073709551616) ((s.rest + d * s.rise) % 18446744073709551616) s.span ⟨HI, hlt⟩ ⟨Int.emod_nonneg _ (by decide), Int.emod_lt_of_pos _ (by decide)⟩ (by omega) w
  have ee : (s.rest + d * s.rise) / 18446744073709551616 * 18446744073709551616 + (s.rest + d * s.rise) % 18446744073709551616 = s.rest + d * s.rise := by omega
  rw [ee] at hd
  have RY : Hid (s.span ≤ (s.rest + d * s.rise) / 18446744073709551616 → inflF d s = (18446744073709551615, 0)) := fun c => if_pos c
  have RN : Hid (¬ s.span ≤ (s.rest + d * s.rise) / 18446744073709551616 → inflF d s = ((s.rest + d * s.rise) / s.span, (s.rest + d * s.rise) % s.span)) := fun c => if_neg c
  rw [E1] at ha
  clear ee h ok
  generalize d * s.rise / 18446744073709551616 = H0 at *
  generalize (d * s.rise % 18446744073709551616 + s.rest) / 18446744073709551616 = C at *
  generalize d * s.rise % 18446744073709551616 = L0 at *
  generalize (s.rest + d * s.rise) / 18446744073709551616 = H at *
  generalize (s.rest + d * s.rise) % 18446744073709551616 = L at *
  generalize (s.rest + d * s.rise) / s.span = Q at *
  generalize (s.rest + d * s.rise) % s.span = R at *
  generalize inflF d s = F at *
  by_cases hc : s.span ≤ H
  · have R1 := unhide RY hc
    rw [R1]
    clear hd RY RN
    go_enter Try.func28, Try.ntmps28
    go_wp2_with fail
    refine hm.mono ?_
    rintro e W ⟨rfl, rfl⟩
    go_wp2_with fail
    go_ret2
    exact ⟨rfl, 0, rfl⟩
  · have R1 := unhide RN hc
    rw [R1]
    have hd' := hd (by omega)
    clear hd RY RN
    go_enter Try.func28, Try.ntmps28
    go_wp2_with fail
    refine hm.mono ?_
    rintro e W ⟨rfl, rfl⟩
    go_wp2_with fail
    refine hd'.mono ?_
    rintro e W2 ⟨rfl, q, rfl⟩
    go_wp2_with fail
    go_ret2
    exact ⟨rfl, q, rfl⟩
end Go.Proofs.Ytlfldbagbafjfaa
