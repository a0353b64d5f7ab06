/- slots: the lists of the slots that have something, the earliest first. -/
import Derived.Test.YtbdjlhkgpblebaaDoorHU
namespace Go.Proofs.YtbdjlhkgpblebaaDoor
open Go.RowKit Go.Shelf
set_option linter.unusedVariables false
set_option maxHeartbeats 400000
set_option maxRecDepth 100000
attribute [local go_sem] Oper.semAt_some

abbrev SlIn (sl : Nat → Nat → List Nd) := { p : Nat × Nat // p.1 < 11 ∧ p.2 < 64 ∧ sl p.1 p.2 ≠ [] }
abbrev encP {sl : Nat → Nat → List Nd} (x : SlIn sl) : Array Value := #[hdp nilp (sl x.1.1 x.1.2)]
def lexP (p q : Nat × Nat) : Prop := p.1 < q.1 ∨ (p.1 = q.1 ∧ p.2 < q.2)
/-- Slots that have something, rising; none is left out between. -/
def Upto {sl : Nat → Nat → List Nd} (pre : List (SlIn sl)) : Prop := (pre.map Subtype.val).Pairwise lexP ∧ ∀ p : SlIn sl, p ∈ pre ∨ ∀ q ∈ pre, lexP q.1 p.1
def Whole {sl : Nat → Nat → List Nd} (ys : List (SlIn sl)) : Prop := (ys.map Subtype.val).Pairwise lexP ∧ ∀ p : SlIn sl, p ∈ ys
/-- All up to a place. -/
def Till {sl : Nat → Nat → List Nd} (i k : Nat) (pre : List (SlIn sl)) : Prop := (pre.map Subtype.val).Pairwise lexP ∧ ∀ p : SlIn sl, p ∈ pre ↔ lexP p.1 (i, k)

theorem Till.upto {sl : Nat → Nat → List Nd} {i k : Nat} {pre : List (SlIn sl)} (h : Till i k pre) : Upto pre := by
  refine ⟨h.1, fun p => ?_⟩
  by_cases c : lexP p.1 (i, k)
  · exact .inl ((h.2 p).2 c)
  · refine .inr (fun q hq => ?_)
    have := (h.2 q).1 hq
    unfold lexP at *; simp only at *; omega
theorem till_zero {sl : Nat → Nat → List Nd} : Till (sl := sl) 0 0 [] := ⟨by simp, fun p => by unfold lexP; simp⟩
theorem Till.next {sl : Nat → Nat → List Nd} {i k : Nat} {pre : List (SlIn sl)} (h : Till i k pre) (hk : ∀ s, k ≤ s → s < 64 → sl i s = []) : Till (i + 1) 0 pre := by
  refine ⟨h.1, fun p => (h.2 p).trans ⟨fun c => ?_, fun c => ?_⟩⟩
  · unfold lexP at *; simp only at *; omega
  · unfold lexP at *; simp only at *
    by_cases c1 : p.1.1 = i
    · by_cases c2 : p.1.2 < k
      · omega
      · have := hk p.1.2 (by omega) p.2.2.1
        rw [← c1] at this
        exact absurd this p.2.2.2
    · omega
theorem Till.step {sl : Nat → Nat → List Nd} {i k j : Nat} {pre : List (SlIn sl)} (h : Till i k pre) (hkj : k ≤ j) (hk : ∀ s, k ≤ s → s < j → sl i s = []) (x : SlIn sl) (hx : x.1 = (i, j)) : Till i (j + 1) (pre ++ [x]) := by
  refine ⟨?_, fun p => ?_⟩
  · rw [List.map_append, List.pairwise_append]
    refine ⟨h.1, by simp, fun a ha b hb => ?_⟩
    obtain ⟨p, hp, rfl⟩ := List.mem_map.1 ha
    simp only [List.map_cons, List.map_nil, List.mem_singleton] at hb
    subst hb
    rw [hx]
    have := (h.2 p).1 hp
    unfold lexP at *; simp only at *; omega
  · rw [List.mem_append, h.2 p, List.mem_singleton]
    constructor
    · rintro (c | rfl)
      · unfold lexP at *; simp only at *; omega
      · rw [hx]; unfold lexP; simp
    · intro c
      by_cases c1 : lexP p.1 (i, k)
      · exact .inl c1
      · right
        unfold lexP at *; simp only at *
        have e1 : p.1.1 = i := by omega
        by_cases c2 : p.1.2 = j
        · apply Subtype.ext
          rw [hx]
          exact Prod.ext e1 c2
        · have := hk p.1.2 (by omega) (by omega)
          rw [← e1] at this
          exact absurd this p.2.2.2
theorem Till.whole {sl : Nat → Nat → List Nd} {pre : List (SlIn sl)} (h : Till 11 0 pre) : Whole pre := ⟨h.1, fun p => (h.2 p).2 (by have := p.2.1; unfold lexP; simp only; omega)⟩

theorem and_pred (x j : Nat) (hx : x < 2 ^ 64) (h : j < 64 ∧ x.testBit j = true ∧ ∀ t, t < j → x.testBit t = false) : ∃ y : Nat, bits BinOp.and IntKind.u64 (x : Int) ((x : Int) - 1) = (y : Int) ∧ y < x ∧ y < 2 ^ 64 ∧ ∀ s, y.testBit s = (x.testBit s && decide (j < s)) := by
  obtain ⟨h1, h2, h3⟩ := h
  have x0 : x ≠ 0 := fun e => by rw [e, Nat.zero_testBit] at h2; cases h2
  have hm : x % 2 ^ j = 0 := by
    apply Nat.eq_of_testBit_eq
    intro i
    rw [Nat.testBit_mod_two_pow, Nat.zero_testBit]
    by_cases c : i < j
    · simp [c, h3 i c]
    · simp [c]
  have hb : x / 2 ^ j % 2 = 1 := by
    rw [Nat.testBit_eq_decide_div_mod_eq] at h2
    simpa using h2
  have hq : x = 2 ^ (j + 1) * (x / 2 ^ j / 2) + 2 ^ j := by
    have e1 := Nat.div_add_mod x (2 ^ j)
    have e2 : 2 * (x / 2 ^ j / 2) + 1 = x / 2 ^ j := by omega
    have e3 : 2 ^ (j + 1) * (x / 2 ^ j / 2) + 2 ^ j = 2 ^ j * (2 * (x / 2 ^ j / 2) + 1) := by
      rw [Nat.pow_succ, Nat.mul_add, Nat.mul_one, Nat.mul_assoc]
    rw [e3, e2]; omega
  generalize x / 2 ^ j / 2 = q at hq
  have pj : 0 < 2 ^ j := Nat.two_pow_pos j
  have pj1 : 2 ^ j < 2 ^ (j + 1) := Nat.pow_lt_pow_right (by decide) (by omega)
  have hx1 : x - 1 = 2 ^ (j + 1) * q + (2 ^ j - 1) := by omega
  have le : x &&& (x - 1) ≤ x - 1 := Nat.and_le_right
  refine ⟨x &&& (x - 1), ?_, by omega, by omega, fun s => ?_⟩
  · rw [show (x : Int) - 1 = ((x - 1 : Nat) : Int) by omega, u64_and_nat x _ hx (by omega)]
  · rw [Nat.testBit_and]
    conv => lhs; rhs; rw [hx1, Nat.testBit_two_pow_mul_add _ (by omega)]
    conv => lhs; lhs; rw [hq, Nat.testBit_two_pow_mul_add _ pj1]
    conv => rhs; lhs; rw [hq, Nat.testBit_two_pow_mul_add _ pj1]
    by_cases c : s < j + 1
    · rw [if_pos c, if_pos c]
      have e1 : (2 ^ j - 1).testBit s = decide (s < j) := Nat.testBit_two_pow_sub_one j s
      rw [e1, Nat.testBit_two_pow]
      by_cases c2 : j = s
      · subst c2; simp
      · have : ¬ j < s := by omega
        simp [c2, this]
    · rw [if_neg c, if_neg c]
      have : j < s := by omega
      simp [this]
end Go.Proofs.YtbdjlhkgpblebaaDoor
