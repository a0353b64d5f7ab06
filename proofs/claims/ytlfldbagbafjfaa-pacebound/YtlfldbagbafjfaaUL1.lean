/- How much may still be spent, by numbers. -/
import Derived.Test.YtlfldbagbafjfaaUA2
namespace Go.Proofs.Ytlfldbagbafjfaa
open Go.RowKit
set_option linter.unusedVariables false
set_option maxRecDepth 100000
set_option maxHeartbeats 1000000

/-- Behind k steps: what may still be spent of each of them is no less than what is left. -/
structure Bd (most : Int) (k : Nat) (s : Ps) (T : List Int) : Prop where
  ok : s.Ok
  burst : s.burst = most
  len : T.length = k
  clock : s.clock < 1073741824
  rise : s.rise ≤ 5242875
  left : 0 ≤ s.left
  ge : ∀ m ∈ T, s.left * s.span + s.rest ≤ m * s.span
  le : ∀ m ∈ T, m ≤ 1048576 + k * 5629499534213121
theorem Bd.le_left {most : Int} {k : Nat} {s : Ps} {T : List Int} (h : Bd most k s T) {m : Int} (hm : m ∈ T) : s.left ≤ m := by
  have g := h.ge m hm
  have p := h.ok.p
  have r := h.ok.r
  exact Int.le_of_mul_le_mul_right (show s.left * s.span ≤ m * s.span by omega) (by omega)
def flowF (c : Int) (s : Ps) : Int := (c - s.clock) * s.rise / s.span + 1
theorem flow_b {most : Int} {k : Nat} {s : Ps} {T : List Int} (h : Bd most k s T) {c : Int} (h1 : s.clock < c) (h2 : c < 1073741824) : 0 ≤ (c - s.clock) * s.rise ∧ (c - s.clock) * s.rise ≤ 5629499534213120 ∧ 1 ≤ flowF c s ∧ flowF c s ≤ 5629499534213121 := by
  have e := h.ok.e
  have p := h.ok.p
  have k1 := h.ok.c
  have a : 0 ≤ (c - s.clock) * s.rise := Int.mul_nonneg (by omega) e.1
  have b : (c - s.clock) * s.rise ≤ 1073741824 * 5242875 := Int.mul_le_mul (by omega) h.rise e.1 (by omega)
  have d := Int.ediv_nonneg a (show 0 ≤ s.span by omega)
  have f := Int.ediv_le_self s.span a
  unfold flowF
  omega
theorem fill_sum {s : Ps} (ok : s.Ok) (x : Int) : (fillF x s).left * s.span + (fillF x s).rest ≤ s.left * s.span + parts x s := by
  have p := ok.p
  have l := ok.l
  have ed := Int.mul_ediv_add_emod (parts x s) s.span
  have m0 := Int.emod_nonneg (parts x s) (show s.span ≠ 0 by omega)
  unfold fillF
  split
  · rename_i c
    show s.burst * s.span + 0 ≤ _
    have : (s.burst - s.left) * s.span ≤ parts x s := (Int.le_ediv_iff_mul_le (by omega)).1 c
    rw [Int.sub_mul] at this
    omega
  · show (s.left + parts x s / s.span) * s.span + parts x s % s.span ≤ _
    rw [Int.add_mul, Int.mul_comm (parts x s / s.span)]
    omega
theorem full_b {s : Ps} (ok : s.Ok) : s.left * s.span + s.rest ≤ s.burst * s.span := by
  have p := ok.p
  have l := ok.l
  have r := ok.r
  by_cases c : s.left = s.burst
  · have := ok.f c
    rw [c]
    omega
  · have : (s.left + 1) * s.span ≤ s.burst * s.span := Int.mul_le_mul_of_nonneg_right (by omega) (by omega)
    rw [Int.add_mul] at this
    omega
theorem fill_left {s : Ps} (ok : s.Ok) (x : Int) (h : 0 ≤ s.left) : 0 ≤ (fillF x s).left := by
  have b := ok.b
  have q0 : 0 ≤ parts x s / s.span := Int.ediv_nonneg (by have := parts_b ok x; have := ok.r; omega) (by have := ok.p; omega)
  unfold fillF
  split
  · show 0 ≤ s.burst; omega
  · show 0 ≤ s.left + parts x s / s.span; omega
/-- Time passes. -/
theorem Bd.flow {most : Int} {k : Nat} {s : Ps} {T : List Int} (h : Bd most k s T) {c : Int} (h1 : s.clock < c) (h2 : c < 1073741824) : Bd most (k + 1) (fillF c s) (T.map (· + flowF c s) ++ [most]) := by
  have ok := h.ok
  have fk := fill_ok ok c
  have fb := flow_b h h1 h2
  have tm : tmF c s = c := by unfold tmF win; omega
  have p := ok.p
  have bb := ok.b
  have hb := h.burst
  refine ⟨fk, by rw [fill_burst]; exact hb, by simp [h.len], by rw [fill_clock, tm]; exact h2, by rw [fill_rise]; exact h.rise, fill_left ok c h.left, fun m hm => ?_, fun m hm => ?_⟩
  · rw [fill_span]
    rcases List.mem_append.1 hm with hm | hm
    · obtain ⟨m0, hm0, rfl⟩ := List.mem_map.1 hm
      have g := h.ge m0 hm0
      have fs := fill_sum ok c
      have pe : parts c s = s.rest + (c - s.clock) * s.rise := by unfold parts; rw [tm]
      have ed := Int.mul_ediv_add_emod ((c - s.clock) * s.rise) s.span
      have m1 := Int.emod_lt_of_pos ((c - s.clock) * s.rise) (show 0 < s.span by omega)
      have : (m0 + flowF c s) * s.span = m0 * s.span + s.span * ((c - s.clock) * s.rise / s.span) + s.span := by
        unfold flowF
        rw [Int.add_mul, Int.add_mul, Int.mul_comm ((c - s.clock) * s.rise / s.span), Int.one_mul]
        omega
      omega
    · rw [List.mem_singleton] at hm
      subst hm
      have := full_b fk
      rw [fill_span, fill_burst, hb] at this
      exact this
  · rcases List.mem_append.1 hm with hm | hm
    · obtain ⟨m0, hm0, rfl⟩ := List.mem_map.1 hm
      have := h.le m0 hm0
      show m0 + flowF c s ≤ _
      omega
    · rw [List.mem_singleton] at hm
      subst hm
      omega
/-- No time passes. -/
theorem Bd.stay {most : Int} {k : Nat} {s : Ps} {T : List Int} (h : Bd most k s T) : Bd most (k + 1) s (T ++ [most]) := by
  have ok := h.ok
  have bb := ok.b
  have hb := h.burst
  refine ⟨ok, hb, by simp [h.len], h.clock, h.rise, h.left, fun m hm => ?_, fun m hm => ?_⟩
  · rcases List.mem_append.1 hm with hm | hm
    · exact h.ge m hm
    · rw [List.mem_singleton] at hm
      subst hm
      have := full_b ok
      rw [hb] at this
      exact this
  · rcases List.mem_append.1 hm with hm | hm
    · have := h.le m hm
      omega
    · rw [List.mem_singleton] at hm
      subst hm
      omega
theorem Bd.set {most : Int} {k : Nat} {s : Ps} {T : List Int} (h : Bd most k s T) (x z : Int) (hx : 0 ≤ x ∧ x ≤ 1048575) : Bd most k { s with rise := 5 * win x 0 1099511627776, span := 4 * win z 1 68719476736, rest := 0 } T := by
  have ok := h.ok
  have a : win x 0 1099511627776 = x := by unfold win; omega
  have b := win_b (x := z) (show (1 : Int) ≤ 68719476736 by decide)
  rw [a]
  refine ⟨⟨ok.b, ok.c, ok.l, by show 0 ≤ (0 : Int) ∧ 0 < 4 * win z 1 68719476736; omega, fun _ => rfl, by show 0 ≤ 5 * x ∧ 5 * x ≤ 5497558138880; omega, by show 1 ≤ 4 * win z 1 68719476736 ∧ 4 * win z 1 68719476736 ≤ 274877906944; omega⟩, h.burst, h.len, h.clock, by show 5 * x ≤ 5242875; omega, h.left, fun m hm => ?_, h.le⟩
  have := h.le_left hm
  show s.left * (4 * win z 1 68719476736) + 0 ≤ m * (4 * win z 1 68719476736)
  have := Int.mul_le_mul_of_nonneg_right this (show 0 ≤ 4 * win z 1 68719476736 by omega)
  omega
theorem Bd.spend {most : Int} {k : Nat} {s : Ps} {T : List Int} (h : Bd most k s T) (z : Int) (hz : 0 ≤ z ∧ z ≤ s.left) : Bd most k { s with left := s.left - z } (T.map (· - z)) := by
  have ok := h.ok
  have l := ok.l
  have b := ok.b
  have p := ok.p
  refine ⟨⟨ok.b, ok.c, by show -s.burst ≤ s.left - z ∧ s.left - z ≤ s.burst; omega, ok.r, fun e => ok.f (by have : s.left - z = s.burst := e; omega), ok.e, ok.p⟩, h.burst, by simp [h.len], h.clock, h.rise, by show 0 ≤ s.left - z; omega, fun m hm => ?_, fun m hm => ?_⟩
  · obtain ⟨m0, hm0, rfl⟩ := List.mem_map.1 hm
    have := h.ge m0 hm0
    show (s.left - z) * s.span + s.rest ≤ (m0 - z) * s.span
    rw [Int.sub_mul, Int.sub_mul]
    omega
  · obtain ⟨m0, hm0, rfl⟩ := List.mem_map.1 hm
    have := h.le m0 hm0
    show m0 - z ≤ _
    omega
theorem bd0 {b : Int} (h : 2400 ≤ b ∧ b ≤ 1048576) : Bd b 0 (ps0 b) [] :=
  ⟨ps0_ok h, rfl, rfl, by show (0 : Int) < _; omega, by show (0 : Int) ≤ _; omega, by show 0 ≤ b; omega, fun m hm => by simp at hm, fun m hm => by simp at hm⟩
/-- When so much may go at once. -/
theorem when_now {s : Ps} (ok : s.Ok) (x : Int) : whenG x s = s.clock ↔ win x 0 s.burst ≤ s.left := by
  have c := ok.c
  have b := ok.b
  have wb := win_b (x := x) (show (0 : Int) ≤ s.burst by omega)
  unfold whenG
  by_cases h : win x 0 s.burst ≤ s.left
  · rw [if_pos h]; exact ⟨fun _ => h, fun _ => rfl⟩
  · rw [if_neg h]
    refine ⟨fun e => ?_, fun k => absurd k h⟩
    exfalso
    split at e
    · omega
    · rename_i hr
      have ee := ok.e
      have p := ok.p
      have r := ok.r
      have a : 1 * s.span ≤ (win x 0 s.burst - s.left) * s.span := Int.mul_le_mul_of_nonneg_right (by omega) (by omega)
      have : 1 ≤ ((win x 0 s.burst - s.left) * s.span - s.rest + s.rise - 1) / s.rise := by
        rw [Int.le_ediv_iff_mul_le (by omega)]
        omega
      omega
end Go.Proofs.Ytlfldbagbafjfaa
