/- Floats by whole numbers: a word that is not negative stands for V of it, in units of 2 ^ -4000; rounding is monotone, and leaves what a word stands for. No program in sight. -/
import Ieee.Arith
namespace Go.Proofs.Ythpnbajhogoinaa
set_option linter.unusedVariables false
set_option maxRecDepth 100000
namespace Fl
open Ieee

theorem p2 (k : Nat) : 0 < 2 ^ k := Nat.two_pow_pos k
theorem mne {r k : Nat} (c0 : r ≠ 0) : r * 2 ^ k ≠ 0 := Nat.mul_ne_zero c0 (by have := p2 k; omega)
theorem pmono {a b : Nat} (h : a ≤ b) : 2 ^ a ≤ 2 ^ b := Nat.pow_le_pow_right (by decide) h

/-- n / 2 ^ d, to the nearest, between two the even one. -/
def rne (n d : Nat) : Nat := n / 2 ^ d + (decide (2 ^ d < 2 * (n % 2 ^ d)) || (2 ^ d == 2 * (n % 2 ^ d) && n / 2 ^ d % 2 == 1)).toNat
theorem toNat_le (b : Bool) : b.toNat ≤ 1 := by cases b <;> decide
theorem rne_le {n d N : Nat} (h : n ≤ N * 2 ^ d) : rne n d ≤ N := by
  have hp := p2 d
  rcases Nat.lt_or_eq_of_le h with h | h
  · have : n / 2 ^ d < N := (Nat.div_lt_iff_lt_mul hp).2 h
    unfold rne
    have := toNat_le (decide (2 ^ d < 2 * (n % 2 ^ d)) || (2 ^ d == 2 * (n % 2 ^ d) && n / 2 ^ d % 2 == 1))
    omega
  · subst h
    unfold rne
    rw [Nat.mul_div_cancel _ hp, Nat.mul_mod_left]
    have e : (2 ^ d == 2 * 0) = false := by rw [beq_eq_false_iff_ne]; omega
    have e2 : decide (2 ^ d < 2 * 0) = false := by rw [decide_eq_false_iff_not]; omega
    rw [e, e2]
    simp
theorem le_rne {n d N : Nat} (h : N * 2 ^ d ≤ n) : N ≤ rne n d := by
  have := (Nat.le_div_iff_mul_le (p2 d)).2 h
  unfold rne
  omega
theorem rne_exact (N d : Nat) : rne (N * 2 ^ d) d = N := Nat.le_antisymm (rne_le (Nat.le_refl _)) (le_rne (Nat.le_refl _))
theorem rne_mono {a b : Nat} (d : Nat) (h : a ≤ b) : rne a d ≤ rne b d := by
  have hp := p2 d
  have hq : a / 2 ^ d ≤ b / 2 ^ d := Nat.div_le_div_right h
  have h1 := toNat_le (decide (2 ^ d < 2 * (a % 2 ^ d)) || (2 ^ d == 2 * (a % 2 ^ d) && a / 2 ^ d % 2 == 1))
  by_cases c : a / 2 ^ d < b / 2 ^ d
  · unfold rne; omega
  · have e : a / 2 ^ d = b / 2 ^ d := by omega
    have ea := Nat.div_add_mod a (2 ^ d)
    have eb := Nat.div_add_mod b (2 ^ d)
    rw [e] at ea
    have hr : a % 2 ^ d ≤ b % 2 ^ d := by omega
    unfold rne
    rw [e]
    refine Nat.add_le_add_left ?_ _
    generalize a % 2 ^ d = x at *
    generalize b % 2 ^ d = y at *
    by_cases c1 : 2 ^ d < 2 * y
    · rw [show decide (2 ^ d < 2 * y) = true from decide_eq_true c1]
      exact toNat_le _
    · rcases Nat.lt_or_eq_of_le hr with c2 | c2
      · rw [show decide (2 ^ d < 2 * x) = false from decide_eq_false (by omega), show (2 ^ d == 2 * x) = false from beq_eq_false_iff_ne.2 (by omega)]
        simp
      · subst c2; exact Nat.le_refl _

/-- The rung of n units of 2 ^ -4000, without an end. -/
def lst (n : Nat) : Nat := max (n.log2 - 52) 2926
def gR (n : Nat) : Nat := (lst n - 2926) * 2 ^ 52 + rne n (lst n)
abbrev inf : Nat := 9218868437227405312
def Rn (n : Nat) : Nat := if n = 0 then 0 else min (gR n) inf

theorem log2_mono {a b : Nat} (ha : a ≠ 0) (h : a ≤ b) : a.log2 ≤ b.log2 := (Nat.le_log2 (by omega)).2 (Nat.le_trans (Nat.log2_self_le ha) h)
theorem gR_mono {a b : Nat} (ha : a ≠ 0) (h : a ≤ b) : gR a ≤ gR b := by
  have hb : b ≠ 0 := by omega
  have hl := log2_mono ha h
  have hL : lst a ≤ lst b := by unfold lst; omega
  by_cases c : lst a = lst b
  · unfold gR; rw [c]
    have := rne_mono (lst b) h
    omega
  · have e2 : lst b + 52 = b.log2 := by unfold lst at c hL ⊢; omega
    have k2 : 2 ^ 52 ≤ rne b (lst b) := by
      refine le_rne ?_
      rw [← Nat.pow_add, Nat.add_comm, e2]
      exact Nat.log2_self_le hb
    have k1 : rne a (lst a) ≤ 2 ^ 53 := by
      refine rne_le ?_
      rw [← Nat.pow_add]
      refine Nat.le_trans (Nat.le_of_lt Nat.lt_log2_self) (pmono ?_)
      unfold lst; omega
    have k3 : 2926 ≤ lst a := by unfold lst; omega
    unfold gR
    have : lst a - 2926 + 1 ≤ lst b - 2926 := by omega
    have := Nat.mul_le_mul_right (2 ^ 52) this
    rw [Nat.add_mul] at this
    omega
theorem Rn_mono {a b : Nat} (h : a ≤ b) : Rn a ≤ Rn b := by
  unfold Rn
  by_cases ha : a = 0
  · rw [if_pos ha]; omega
  · rw [if_neg ha, if_neg (by omega)]
    have := gR_mono ha h
    omega

/-- What a rung stands for. -/
def V (r : Nat) : Nat := if r < 2 ^ 52 then r * 2 ^ 2926 else (2 ^ 52 + r % 2 ^ 52) * 2 ^ (2926 + (r / 2 ^ 52 - 1))
theorem V0 : V 0 = 0 := by unfold V; rw [if_pos (by decide)]; generalize 2 ^ 2926 = x; exact Nat.zero_mul _
theorem log2_mul {m k : Nat} (hm : m ≠ 0) : (m * 2 ^ k).log2 = m.log2 + k := by
  have hp := p2 k
  have h0 : m * 2 ^ k ≠ 0 := Nat.mul_ne_zero hm (by omega)
  refine Nat.le_antisymm ?_ ?_
  · have : m * 2 ^ k < 2 ^ (m.log2 + k + 1) := by
      rw [show m.log2 + k + 1 = (m.log2 + 1) + k by omega, Nat.pow_add 2 (m.log2 + 1) k]
      exact Nat.mul_lt_mul_of_pos_right Nat.lt_log2_self hp
    have := (Nat.log2_lt h0).2 this
    omega
  · refine (Nat.le_log2 h0).2 ?_
    rw [Nat.pow_add]
    exact Nat.mul_le_mul_right _ (Nat.log2_self_le hm)
theorem log2_52 {m : Nat} (h : 2 ^ 52 ≤ m) (h2 : m < 2 ^ 53) : m.log2 = 52 := by
  have h0 : m ≠ 0 := by have := p2 52; omega
  have a := (Nat.le_log2 h0).2 h
  have b := (Nat.log2_lt h0).2 h2
  omega
theorem Rn_V {r : Nat} (h : r < inf) : Rn (V r) = r := by
  by_cases c : r < 2 ^ 52
  · by_cases c0 : r = 0
    · subst c0; rw [V0]; rfl
    · have e : ∃ k, k = 2926 ∧ V r = r * 2 ^ k := ⟨2926, rfl, by unfold V; rw [if_pos c]⟩
      obtain ⟨k, hk, e⟩ := e
      have hl : r.log2 < 52 := (Nat.log2_lt c0).2 c
      have hL : lst (r * 2 ^ k) = k := by unfold lst; rw [log2_mul c0]; omega
      have hn : r * 2 ^ k ≠ 0 := mne c0
      unfold Rn
      rw [e, if_neg hn]
      unfold gR
      rw [hL, rne_exact]
      omega
  · have e : V r = (2 ^ 52 + r % 2 ^ 52) * 2 ^ (2926 + (r / 2 ^ 52 - 1)) := by unfold V; rw [if_neg c]
    have hm : r % 2 ^ 52 < 2 ^ 52 := Nat.mod_lt _ (p2 52)
    have hd := Nat.div_add_mod r (2 ^ 52)
    have hq : 1 ≤ r / 2 ^ 52 := by omega
    have hl : (2 ^ 52 + r % 2 ^ 52).log2 = 52 := log2_52 (by omega) (by omega)
    have hM : 2 ^ 52 + r % 2 ^ 52 ≠ 0 := by have := p2 52; omega
    have hL : lst ((2 ^ 52 + r % 2 ^ 52) * 2 ^ (2926 + (r / 2 ^ 52 - 1))) = 2926 + (r / 2 ^ 52 - 1) := by unfold lst; rw [log2_mul hM, hl]; omega
    have hn : (2 ^ 52 + r % 2 ^ 52) * 2 ^ (2926 + (r / 2 ^ 52 - 1)) ≠ 0 := Nat.mul_ne_zero hM (by have := p2 (2926 + (r / 2 ^ 52 - 1)); omega)
    unfold Rn
    rw [e, if_neg hn]
    unfold gR
    rw [hL, rne_exact]
    omega
theorem V_le {a b : Nat} (ha : a < inf) (hb : b < inf) (h : V a ≤ V b) : a ≤ b := by
  have := Rn_mono h
  rwa [Rn_V ha, Rn_V hb] at this
theorem le_V {a b : Nat} (ha : a < inf) (hb : b < inf) (h : a ≤ b) : V a ≤ V b := by
  by_cases c : V a ≤ V b
  · exact c
  · have := V_le hb ha (by omega)
    have e : a = b := by omega
    subst e; exact Nat.le_refl _
theorem V_lt {a b : Nat} (ha : a < inf) (hb : b < inf) : V a < V b ↔ a < b := by
  constructor
  · intro h
    have h2 := V_le ha hb (Nat.le_of_lt h)
    rcases Nat.lt_or_eq_of_le h2 with c | c
    · exact c
    · subst c; omega
  · intro h
    have h2 := le_V ha hb (Nat.le_of_lt h)
    rcases Nat.lt_or_eq_of_le h2 with c | c
    · exact c
    · have := V_le hb ha (by omega); omega
theorem Rn_le {n r : Nat} (hr : r < inf) (h : n ≤ V r) : Rn n ≤ r := by have := Rn_mono h; rwa [Rn_V hr] at this
theorem le_Rn {n r : Nat} (hr : r < inf) (h : V r ≤ n) : r ≤ Rn n := by have := Rn_mono h; rwa [Rn_V hr] at this
theorem Rn_inf (n : Nat) : Rn n ≤ inf := by unfold Rn; split <;> omega

/-- What 53 digits at most can tell. -/
theorem rep {M k : Nat} (hM : M < 2 ^ 53) (hk : 2978 ≤ k) (hk2 : k ≤ 4900) : Rn (M * 2 ^ k) < inf ∧ V (Rn (M * 2 ^ k)) = M * 2 ^ k := by
  by_cases h0 : M = 0
  · subst h0
    rw [Nat.zero_mul]
    exact ⟨by decide, V0⟩
  · have hl : M.log2 < 53 := (Nat.log2_lt h0).2 hM
    obtain ⟨t, ht⟩ : ∃ t, M.log2 + t = 52 := ⟨52 - M.log2, by omega⟩
    have k1 : 2 ^ 52 ≤ M * 2 ^ t := by
      have := Nat.mul_le_mul_right (2 ^ t) (Nat.log2_self_le h0)
      rwa [← Nat.pow_add, ht] at this
    have k2 : M * 2 ^ t < 2 ^ 53 := by
      have := Nat.mul_lt_mul_of_pos_right (Nat.lt_log2_self (n := M)) (p2 t)
      rwa [← Nat.pow_add, show M.log2 + 1 + t = 53 by omega] at this
    have e : M * 2 ^ k = (M * 2 ^ t) * 2 ^ (k - t) := by rw [Nat.mul_assoc, ← Nat.pow_add, show t + (k - t) = k by omega]
    rw [e]
    generalize M * 2 ^ t = N at *
    -- the rung
    have hr : V ((k - t - 2926) * 2 ^ 52 + N) = N * 2 ^ (k - t) := by
      have hlt : ¬ (k - t - 2926) * 2 ^ 52 + N < 2 ^ 52 := by omega
      have e1 : ((k - t - 2926) * 2 ^ 52 + N) % 2 ^ 52 = N - 2 ^ 52 := by omega
      have e2 : ((k - t - 2926) * 2 ^ 52 + N) / 2 ^ 52 = k - t - 2926 + 1 := by omega
      unfold V
      rw [if_neg hlt, e1, e2, show 2 ^ 52 + (N - 2 ^ 52) = N by omega, show 2926 + (k - t - 2926 + 1 - 1) = k - t by omega]
    have hi : (k - t - 2926) * 2 ^ 52 + N < inf := by unfold inf; omega
    have e3 := Rn_V hi
    rw [hr] at e3
    rw [e3]
    exact ⟨hi, hr⟩

/-- k, told so that nothing lays it open. -/
def ux (k : Nat) : Nat → Nat
  | 0 => k
  | n + 1 => ux k ((n + 1) / 2)
theorem ux_eq (k : Nat) : ux k 1 = k := by rw [ux, ux]
/-- The exponent of the unit (not to be laid open: 2 to it has 1200 digits). -/
def uE : Nat := ux 4000 1
theorem uE_eq : uE = 4000 := ux_eq 4000
/-- The value of a magnitude at a place. -/
def sc (m : Nat) (p : Int) : Nat := m * 2 ^ (p + 4000).toNat

theorem nearest_eq (neg : Bool) (m : Nat) (p : Int) (hp : -4000 ≤ p) : double.nearest neg m p = double.word neg (Rn (sc m p)) := by
  unfold Format.nearest
  by_cases h0 : m = 0
  · subst h0
    rw [if_pos rfl]
    unfold sc Rn
    rw [Nat.zero_mul, if_pos rfl]
  · rw [if_neg h0]
    obtain ⟨T, hT⟩ : ∃ T : Nat, (T : Int) = p + 4000 := ⟨(p + 4000).toNat, by omega⟩
    have hsc : sc m p = m * 2 ^ T := by unfold sc; rw [show (p + 4000).toNat = T by omega]
    have hn : m * 2 ^ T ≠ 0 := Nat.mul_ne_zero h0 (by have := p2 T; omega)
    have hL : lst (m * 2 ^ T) = max (m.log2 + T - 52) 2926 := by unfold lst; rw [log2_mul h0]
    have hlp : double.leastPlace = -1074 := by decide
    have hf : double.fractionBits = 52 := rfl
    have hb : double.binade = 2 ^ 52 := rfl
    have hi : double.infRung = inf := by decide
    dsimp only
    rw [hlp, hf, hb, hi, hsc]
    unfold Rn
    rw [if_neg hn]
    unfold gR
    rw [hL]
    generalize hl : max (m.log2 + T - 52) 2926 = l
    have hlast : max (p + (m.log2 : Int) - ((52 : Nat) : Int)) (-1074) = (l : Int) - 4000 := by omega
    rw [hlast]
    have e1 : ((l : Int) - 4000 - -1074).toNat = l - 2926 := by omega
    rw [e1]
    have kept : Toward.even.cut neg (m <<< (p - ((l : Int) - 4000)).toNat) ((l : Int) - 4000 - p).toNat = rne (m * 2 ^ T) l := by
      unfold Toward.cut
      dsimp only
      rw [Nat.shiftLeft_eq]
      by_cases c : l ≤ T
      · have ea : (p - ((l : Int) - 4000)).toNat = T - l := by omega
        have eb : ((l : Int) - 4000 - p).toNat = 0 := by omega
        rw [ea, eb]
        have e2 : m * 2 ^ T = (m * 2 ^ (T - l)) * 2 ^ l := by rw [Nat.mul_assoc, ← Nat.pow_add, show T - l + l = T by omega]
        rw [e2, rne_exact]
        rw [show min 0 ((m * 2 ^ (T - l)).log2 + 2) = 0 by omega]
        rw [Nat.shiftLeft_zero, Nat.div_one, Nat.mod_one]
        simp
      · have ea : (p - ((l : Int) - 4000)).toNat = 0 := by omega
        have eb : ((l : Int) - 4000 - p).toNat = l - T := by omega
        rw [ea, eb, Nat.pow_zero, Nat.mul_one]
        obtain ⟨k, hk⟩ : ∃ k, l - T = k := ⟨_, rfl⟩
        rw [hk]
        have hT2 := p2 T
        have el : 2 ^ l = 2 ^ T * 2 ^ k := by rw [← Nat.pow_add, show T + k = l by omega]
        have d1 : m * 2 ^ T / 2 ^ l = m / 2 ^ k := by rw [el, Nat.mul_comm m, Nat.mul_div_mul_left _ _ hT2]
        have d2 : m * 2 ^ T % 2 ^ l = 2 ^ T * (m % 2 ^ k) := by rw [el, Nat.mul_comm m, Nat.mul_mod_mul_left]
        have c1 : (2 ^ l < 2 * (2 ^ T * (m % 2 ^ k))) ↔ 2 ^ k < 2 * (m % 2 ^ k) := by
          rw [el, show 2 * (2 ^ T * (m % 2 ^ k)) = 2 ^ T * (2 * (m % 2 ^ k)) from Nat.mul_left_comm ..]
          exact Nat.mul_lt_mul_left hT2
        have c2 : (2 ^ l = 2 * (2 ^ T * (m % 2 ^ k))) ↔ 2 ^ k = 2 * (m % 2 ^ k) := by
          rw [el, show 2 * (2 ^ T * (m % 2 ^ k)) = 2 ^ T * (2 * (m % 2 ^ k)) from Nat.mul_left_comm ..]
          exact Nat.mul_right_inj (by omega)
        have er : rne (m * 2 ^ T) l = rne m k := by
          unfold rne
          rw [d1, d2]
          have b1 : decide (2 ^ l < 2 * (2 ^ T * (m % 2 ^ k))) = decide (2 ^ k < 2 * (m % 2 ^ k)) := decide_eq_decide.2 c1
          have b2 : (2 ^ l == 2 * (2 ^ T * (m % 2 ^ k))) = (2 ^ k == 2 * (m % 2 ^ k)) := by rw [Bool.eq_iff_iff, beq_iff_eq, beq_iff_eq]; exact c2
          rw [b1, b2]
        rw [er, Nat.one_shiftLeft]
        by_cases c3 : k ≤ m.log2 + 2
        · rw [Nat.min_eq_left c3]; rfl
        · rw [Nat.min_eq_right (by omega)]
          have small : ∀ j, m.log2 + 2 ≤ j → m / 2 ^ j = 0 ∧ m % 2 ^ j = m ∧ 2 * m < 2 ^ j := by
            intro j hj
            have h1 : m < 2 ^ (m.log2 + 1) := Nat.lt_log2_self
            have h2 := pmono hj
            rw [Nat.pow_succ] at h2
            have h3 : m < 2 ^ j := by omega
            exact ⟨Nat.div_eq_of_lt h3, Nat.mod_eq_of_lt h3, by omega⟩
          obtain ⟨q1, q2, q3⟩ := small (m.log2 + 2) (Nat.le_refl _)
          obtain ⟨r1, r2, r3⟩ := small k (by omega)
          unfold rne
          rw [q1, q2, r1, r2]
          rw [show decide (2 ^ k < 2 * m) = false from decide_eq_false (by omega), show (2 ^ k == 2 * m) = false from beq_eq_false_iff_ne.2 (by omega)]
          rw [show decide (2 ^ (m.log2 + 2) < 2 * m) = false from decide_eq_false (by omega), show (2 ^ (m.log2 + 2) == 2 * m) = false from beq_eq_false_iff_ne.2 (by omega)]
    rw [kept]
end Fl
end Go.Proofs.Ythpnbajhogoinaa
