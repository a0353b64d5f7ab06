/- Times by their digits to the base 64. No program in sight. -/
import Derived.Test.YtbdjlhkgpblebaaDoorBase
import Derived.Lib.BitFns
namespace Go.Proofs.YtbdjlhkgpblebaaDoor
open Go.RowKit
set_option linter.unusedVariables false
set_option maxRecDepth 100000

/-- A time's i-th digit. -/
def dg (t i : Nat) : Nat := t / 64 ^ i % 64
/-- The highest digit in which two times differ; 0, if they are the same. -/
def pt (a c : Nat) : Nat := (Lib.bitLen (a ^^^ c) - 1) / 6

theorem div_xor (a c k : Nat) : a / 2 ^ k = c / 2 ^ k ↔ a ^^^ c < 2 ^ k := by
  rw [← Nat.div_eq_zero_iff_lt (Nat.two_pow_pos k), ← Nat.shiftRight_eq_div_pow, ← Nat.shiftRight_eq_div_pow, ← Nat.shiftRight_eq_div_pow, Nat.shiftRight_xor_distrib]
  constructor
  · intro h; rw [h, Nat.xor_self]
  · intro h
    apply Nat.eq_of_testBit_eq
    intro i
    have := congrArg (fun x => x.testBit i) h
    simp only [Nat.testBit_xor, Nat.zero_testBit] at this
    revert this
    cases (a >>> k).testBit i <;> cases (c >>> k).testBit i <;> simp

theorem bitLen_lt (x k : Nat) (hx : x < 2 ^ 64) (hk : k ≤ 64) : Lib.bitLen x ≤ k ↔ x < 2 ^ k := by
  constructor
  · intro h
    by_cases c : x < 2 ^ k
    · exact c
    · have := Lib.bitLen_shift k x (by omega) hx
      have h2 : 0 < x / 2 ^ k := Nat.div_pos (by omega) (Nat.two_pow_pos k)
      have h3 : x / 2 ^ k < 2 ^ 64 := Nat.lt_of_le_of_lt (Nat.div_le_self _ _) hx
      have := Lib.bitLen_half (x / 2 ^ k) (by omega) h3
      omega
  · exact Lib.bitLen_le x k hk

theorem pow64 (i : Nat) : 64 ^ i = 2 ^ (6 * i) := by rw [Nat.pow_mul]

theorem pt_iff {a c : Nat} (ha : a < 2 ^ 62) (hc : c < 2 ^ 62) (i : Nat) : pt a c ≤ i ↔ a / 64 ^ (i + 1) = c / 64 ^ (i + 1) := by
  have hx : a ^^^ c < 2 ^ 62 := Nat.xor_lt_two_pow ha hc
  have hb := (bitLen_lt (a ^^^ c) 62 (Nat.lt_trans hx (by decide)) (by decide)).2 hx
  rw [pow64, div_xor]
  unfold pt
  by_cases h : i ≤ 9
  · rw [← bitLen_lt _ _ (Nat.lt_trans hx (by decide)) (by omega)]
    omega
  · constructor
    · intro _
      exact Nat.lt_of_lt_of_le hx (Nat.pow_le_pow_right (by decide) (by omega))
    · intro _; omega

theorem pt_le {a c : Nat} (ha : a < 2 ^ 62) (hc : c < 2 ^ 62) : pt a c ≤ 10 := by
  have hx : a ^^^ c < 2 ^ 62 := Nat.xor_lt_two_pow ha hc
  have hb := (bitLen_lt (a ^^^ c) 62 (Nat.lt_trans hx (by decide)) (by decide)).2 hx
  unfold pt; omega

theorem pt_up {a c : Nat} (ha : a < 2 ^ 62) (hc : c < 2 ^ 62) : a / 64 ^ (pt a c + 1) = c / 64 ^ (pt a c + 1) := (pt_iff ha hc _).1 (Nat.le_refl _)
theorem pt_ne {a c : Nat} (ha : a < 2 ^ 62) (hc : c < 2 ^ 62) (h : 0 < pt a c) : a / 64 ^ pt a c ≠ c / 64 ^ pt a c := by
  intro e
  have := (pt_iff ha hc (pt a c - 1)).2 (by rw [show pt a c - 1 + 1 = pt a c by omega]; exact e)
  omega
theorem pt_eq {a c : Nat} (ha : a < 2 ^ 62) (hc : c < 2 ^ 62) {i : Nat} (h1 : a / 64 ^ (i + 1) = c / 64 ^ (i + 1)) (h2 : 0 < i → a / 64 ^ i ≠ c / 64 ^ i) : pt a c = i := by
  have h3 := (pt_iff ha hc i).2 h1
  by_cases h : i = 0
  · omega
  · have h4 : ¬ pt a c ≤ i - 1 := fun c' => h2 (by omega) (by have := (pt_iff ha hc (i - 1)).1 c'; rwa [show i - 1 + 1 = i by omega] at this)
    omega

theorem div_step (t i : Nat) : t / 64 ^ i = t / 64 ^ (i + 1) * 64 + dg t i := by
  unfold dg
  rw [Nat.pow_succ, ← Nat.div_div_eq_div_mul]
  omega
theorem dg_lt (t i : Nat) : dg t i < 64 := Nat.mod_lt _ (by decide)
theorem div_mono {a b : Nat} (i : Nat) (h : a ≤ b) : a / 64 ^ i ≤ b / 64 ^ i := Nat.div_le_div_right h
theorem lt_of_div {a b i : Nat} (h : a / 64 ^ i < b / 64 ^ i) : a < b := by
  by_cases c : a < b
  · exact c
  · have := div_mono i (Nat.le_of_not_lt c); omega
theorem div_up {a c i : Nat} (h : a / 64 ^ i = c / 64 ^ i) : ∀ k, i ≤ k → a / 64 ^ k = c / 64 ^ k := by
  intro k hk
  obtain ⟨d, rfl⟩ : ∃ d, k = i + d := ⟨k - i, by omega⟩
  rw [Nat.pow_add, ← Nat.div_div_eq_div_mul, ← Nat.div_div_eq_div_mul, h]

/-- Where a time lies: ring and slot. -/
def pl (c a : Nat) : Nat × Nat := (pt (max a c) c, dg (max a c) (pt (max a c) c))

theorem pl_lt {c a : Nat} (ha : a < 2 ^ 62) (hc : c < 2 ^ 62) : (pl c a).1 < 11 ∧ (pl c a).2 < 64 := by
  have hm : max a c < 2 ^ 62 := by omega
  exact ⟨Nat.lt_succ_of_le (pt_le hm hc), dg_lt _ _⟩

/-- What lies in an earlier place comes ahead in time. -/
theorem pl_mono {c a b : Nat} (ha : a < 2 ^ 62) (hb : b < 2 ^ 62) (hc : c < 2 ^ 62) (h : (pl c a).1 < (pl c b).1 ∨ ((pl c a).1 = (pl c b).1 ∧ (pl c a).2 < (pl c b).2)) : a < b := by
  have hA : max a c < 2 ^ 62 := by omega
  have hB : max b c < 2 ^ 62 := by omega
  have key : max a c < max b c := by
    have a1 := pt_up hA hc
    have b1 := pt_up hB hc
    rcases h with h | ⟨h1, h2⟩
    · simp only [pl] at h
      have b2 := pt_ne hB hc (by omega)
      have e := div_up a1 (pt (max b c) c) (by omega)
      have m := div_mono (pt (max b c) c) (Nat.le_max_right b c)
      exact lt_of_div (i := pt (max b c) c) (by omega)
    · simp only [pl] at h1 h2
      rw [h1] at a1 h2
      have s1 := div_step (max a c) (pt (max b c) c)
      have s2 := div_step (max b c) (pt (max b c) c)
      exact lt_of_div (i := pt (max b c) c) (by omega)
  omega

/-- Time goes on from c to t; what lies beyond the digit of t stays where it is, and is not due. -/
theorem pl_stays {c t a : Nat} (ha : a < 2 ^ 62) (ht : t < 2 ^ 62) (hct : c ≤ t) (h : pt c t < (pl c a).1 ∨ ((pl c a).1 = pt c t ∧ dg t (pt c t) < (pl c a).2)) : pl t a = pl c a ∧ t < a := by
  have hc : c < 2 ^ 62 := by omega
  have hA : max a c < 2 ^ 62 := by omega
  have t1 := pt_up hc ht
  have a1 := pt_up hA hc
  have lt : t < max a c := by
    rcases h with h | ⟨h1, h2⟩
    · simp only [pl] at h
      have a2 := pt_ne hA hc (by omega)
      have m := div_mono (pt (max a c) c) (Nat.le_max_right a c)
      have e := div_up t1 (pt (max a c) c) (by omega)
      exact lt_of_div (i := pt (max a c) c) (by omega)
    · simp only [pl] at h1 h2
      rw [h1] at a1 h2
      have s1 := div_step (max a c) (pt c t)
      have s2 := div_step t (pt c t)
      exact lt_of_div (i := pt c t) (by omega)
  have hac : c < a := by omega
  have e1 : max a c = a := by omega
  have e2 : max a t = a := by omega
  rw [e1] at lt a1
  refine ⟨?_, lt⟩
  have hp : pt a t = pt a c := by
    apply pt_eq ha ht
    · rw [a1]
      rcases h with h | ⟨h1, h2⟩
      · simp only [pl, e1] at h
        exact div_up t1 _ (by omega)
      · simp only [pl, e1] at h1
        rw [h1]; exact t1
    · intro h0
      rcases h with h | ⟨h1, h2⟩
      · simp only [pl, e1] at h
        have e := div_up t1 (pt a c) (by omega)
        have := pt_ne ha hc h0
        omega
      · simp only [pl, e1] at h1 h2
        rw [h1] at h2 a1 ⊢
        have s1 := div_step a (pt c t)
        have s2 := div_step t (pt c t)
        omega
  unfold pl
  rw [e1, e2, hp]

/-- .. what lies ahead of it is due. -/
theorem pl_due {c t a : Nat} (ha : a < 2 ^ 62) (ht : t < 2 ^ 62) (hct : c ≤ t) (h : (pl c a).1 < pt c t ∨ ((pl c a).1 = pt c t ∧ (pl c a).2 < dg t (pt c t))) : a < t := by
  have hc : c < 2 ^ 62 := by omega
  have hA : max a c < 2 ^ 62 := by omega
  have t1 := pt_up hc ht
  have a1 := pt_up hA hc
  have : max a c < t := by
    rcases h with h | ⟨h1, h2⟩
    · simp only [pl] at h
      have t2 := pt_ne hc ht (by omega)
      have m := div_mono (pt c t) hct
      have e := div_up a1 (pt c t) (by omega)
      exact lt_of_div (i := pt c t) (by omega)
    · simp only [pl] at h1 h2
      rw [h1] at a1 h2
      have s1 := div_step (max a c) (pt c t)
      have s2 := div_step t (pt c t)
      exact lt_of_div (i := pt c t) (by omega)
  omega

/-- What comes down lies on a faster ring: below the one that was emptied, or at the very clock. -/
theorem pl_clock {c : Nat} (hc : c < 2 ^ 62) : pl c c = (0, dg c 0) := by
  have e : pt (max c c) c = 0 := by
    rw [Nat.max_self]
    exact pt_eq hc hc rfl (fun h => by omega)
  unfold pl
  rw [e, Nat.max_self]
end Go.Proofs.YtbdjlhkgpblebaaDoor
