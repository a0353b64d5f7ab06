/- Division; whole numbers as words; negative words. -/
import Derived.Test.YthpnbajhogoinaaIB
namespace Go.Proofs.Ythpnbajhogoinaa
set_option linter.unusedVariables false
set_option maxRecDepth 100000
namespace Fl
open Ieee

/-- The quotient's digits and the mark of a rest. -/
def dq (m n c : Nat) : Nat := 2 * (m * c / n) + (m * c % n != 0).toNat
def divW (x y : Nat) : Nat :=
  match double.read x, double.read y with
  | .number _ m i, .number _ n j => Rn (sc (dq m n (2 ^ (54 + n.log2 - m.log2))) (i - j - (54 + n.log2 - m.log2 : Nat) - 1))
  | _, _ => 0
theorem log2_le52 {m : Nat} (h : m < 2 ^ 53) : m.log2 ≤ 52 := by
  by_cases h0 : m = 0
  · subst h0; decide
  · have := (Nat.log2_lt h0).2 h; omega
theorem divW_eq {x y m n : Nat} {i j : Int} {a b : Bool} (ex : double.read x = .number a m i) (ey : double.read y = .number b n j) : divW x y = Rn (sc (dq m n (2 ^ (54 + n.log2 - m.log2))) (i - j - (54 + n.log2 - m.log2 : Nat) - 1)) := by
  unfold divW; rw [ex, ey]
theorem div_any (a b : Bool) {x y X Y : Nat} (hx : x < inf) (hy : y < inf) (h0 : 2 ^ 52 ≤ y) (eX : ∃ m p, double.read X = .number a m p ∧ double.read x = .number false m p) (eY : ∃ m p, double.read Y = .number b m p ∧ double.read y = .number false m p) : double.div X Y = some (double.word (a ^^ b) (divW x y)) := by
  obtain ⟨m, i, ex, vx, i1, i2, m1, -, -⟩ := read_eq hx
  obtain ⟨n, j, ey, vy, j1, j2, n1, n2, -⟩ := read_eq hy
  obtain ⟨m', i', e1, e2⟩ := eX
  obtain ⟨n', j', e3, e4⟩ := eY
  rw [ex] at e2
  rw [ey] at e4
  cases e2
  cases e4
  have hn : ¬ n = 0 := by have := n2 h0; have := p2 52; omega
  rw [divW_eq ex ey]
  have lm := log2_le52 m1
  have ln := log2_le52 n1
  unfold Format.div
  rw [e1, e3]
  have e : (Datum.number a m i).quotient (double.fractionBits + 2) (Datum.number b n j) = some (.number (a ^^ b) (dq m n (2 ^ (54 + n.log2 - m.log2))) (i - j - (54 + n.log2 - m.log2 : Nat) - 1)) := by
    unfold Datum.quotient
    dsimp only
    rw [if_neg hn, show double.fractionBits + 2 = 54 from rfl, Nat.shiftLeft_eq]
    rfl
  rw [e]
  show some (double.nearest (a ^^ b) _ _) = _
  rw [nearest_eq _ _ _ (by omega)]
theorem div_eq {x y : Nat} (hx : x < inf) (hy : y < inf) (h0 : 2 ^ 52 ≤ y) : double.div x y = some (divW x y) := by
  have h := div_any false false hx hy h0 (read_pos hx) (read_pos hy)
  rwa [show (false ^^ false) = false from rfl, word_f] at h

theorem dq_le {m n c N : Nat} (hn : 0 < n) (h : m * c ≤ N * n) : dq m n c ≤ 2 * N := by
  unfold dq
  have hd := Nat.div_add_mod (m * c) n
  have h1 : m * c / n ≤ N := Nat.div_le_of_le_mul (by rw [Nat.mul_comm n]; exact h)
  by_cases r : m * c % n = 0
  · rw [show (m * c % n != 0) = false by rw [r]; rfl]; simp; omega
  · have h2 : m * c / n < N := by
      refine (Nat.div_lt_iff_lt_mul hn).2 ?_
      rcases Nat.lt_or_eq_of_le h with h | h
      · exact h
      · exfalso; rw [h, Nat.mul_mod_left] at r; exact r rfl
    have := toNat_le (m * c % n != 0)
    omega
theorem divW_zero {y : Nat} (hy : y < inf) : divW 0 y = 0 := by
  obtain ⟨m, i, ex, -, -, -, -, -, z⟩ := read_eq (r := 0) (by decide)
  obtain ⟨n, j, ey, -⟩ := read_eq hy
  rw [divW_eq ex ey, z rfl]
  unfold dq sc
  rw [Nat.zero_mul, Nat.zero_div, Nat.zero_mod]
  show Rn (0 * _) = 0
  rw [Nat.zero_mul]; rfl
/-- A quotient is at most what it is at most exactly. -/
theorem divW_le {x y r : Nat} (hx : x < inf) (hy : y < inf) (h0 : 2 ^ 52 ≤ y) (hr : r < inf) (h1 : 2 ^ 52 ≤ r) (h : V x * 2 ^ uE ≤ V r * V y) : divW x y ≤ r := by
  obtain ⟨m, i, ex, vx, i1, i2, m1, -, -⟩ := read_eq hx
  obtain ⟨n, j, ey, vy, j1, j2, n1, n2, -⟩ := read_eq hy
  obtain ⟨M, e, er, vr, e1, e2, M1, M2, -⟩ := read_eq hr
  rw [divW_eq ex ey]
  refine Rn_le hr ?_
  have hn : 0 < n := by have := n2 h0; have := p2 52; omega
  have lm := log2_le52 m1
  have ln := log2_le52 n1
  by_cases c0 : m = 0
  · subst c0
    unfold dq sc
    rw [Nat.zero_mul, Nat.zero_div, Nat.zero_mod]
    show 0 * _ ≤ _
    rw [Nat.zero_mul]; exact Nat.zero_le _
  · rw [vx, vy, vr] at h
    have hm := Nat.log2_self_le c0
    have hn2 := Nat.lt_log2_self (n := n)
    -- m 2^(i+8000) ≤ M n 2^(e+j+8000)
    have k1 : m * 2 ^ (i + 8000).toNat ≤ M * n * 2 ^ (e + j + 8000).toNat := by
      unfold sc at h
      rw [Nat.mul_assoc, ← Nat.pow_add, Nat.mul_mul_mul_comm, ← Nat.pow_add, show (i + 4000).toNat + uE = (i + 8000).toNat by rw [uE_eq]; omega, show (e + 4000).toNat + (j + 4000).toNat = (e + j + 8000).toNat by omega] at h
      exact h
    have k2 : m.log2 + (i + 8000).toNat < 54 + n.log2 + (e + j + 8000).toNat := by
      have a1 : 2 ^ (m.log2 + (i + 8000).toNat) ≤ m * 2 ^ (i + 8000).toNat := by rw [Nat.pow_add]; exact Nat.mul_le_mul_right _ hm
      have a2 : M * n * 2 ^ (e + j + 8000).toNat < 2 ^ (54 + n.log2 + (e + j + 8000).toNat) := by
        rw [Nat.pow_add]
        refine Nat.mul_lt_mul_of_pos_right ?_ (p2 _)
        rw [show 54 + n.log2 = 53 + (n.log2 + 1) by omega, Nat.pow_add]
        exact Nat.mul_lt_mul_of_lt_of_le M1 (Nat.le_of_lt hn2) (p2 _)
      exact (Nat.pow_lt_pow_iff_right (by decide)).1 (Nat.lt_of_le_of_lt a1 (Nat.lt_of_le_of_lt k1 a2))
    obtain ⟨k, hk⟩ : ∃ k : Nat, 54 + n.log2 - m.log2 = k := ⟨_, rfl⟩
    rw [hk]
    obtain ⟨t, ht⟩ : ∃ t : Nat, (t : Int) = e - (i - j - k) := ⟨(e - (i - j - k)).toNat, by omega⟩
    have k3 : m * 2 ^ k ≤ (M * 2 ^ t) * n := by
      have a : m * 2 ^ k * 2 ^ (i + 8000 - k).toNat ≤ (M * 2 ^ t) * n * 2 ^ (i + 8000 - k).toNat := by
        rw [Nat.mul_assoc, ← Nat.pow_add, Nat.mul_right_comm M, Nat.mul_assoc (M * n), ← Nat.pow_add, show k + (i + 8000 - k).toNat = (i + 8000).toNat by omega, show t + (i + 8000 - k).toNat = (e + j + 8000).toNat by omega]
        exact k1
      exact Nat.le_of_mul_le_mul_right a (p2 _)
    have k4 := dq_le hn k3
    rw [vr]
    unfold sc
    refine Nat.le_trans (Nat.mul_le_mul_right _ k4) (Nat.le_of_eq ?_)
    rw [Nat.mul_comm 2, Nat.mul_assoc, ← Nat.pow_succ', Nat.mul_assoc, ← Nat.pow_add, show t + ((i - j - (k : Int) - 1 + 4000).toNat + 1) = (e + 4000).toNat by omega]

theorem dq_mono {a b n c : Nat} (hn : 0 < n) (h : a ≤ b) : dq a n c ≤ dq b n c := by
  unfold dq
  have h' : a * c ≤ b * c := Nat.mul_le_mul_right _ h
  generalize a * c = A at *
  generalize b * c = B at *
  have hq : A / n ≤ B / n := Nat.div_le_div_right h'
  have h1 := toNat_le (A % n != 0)
  by_cases c0 : A / n < B / n
  · omega
  · have e : A / n = B / n := by omega
    have ea := Nat.div_add_mod A n
    have eb := Nat.div_add_mod B n
    rw [e] at ea ⊢
    by_cases r : A % n = 0
    · rw [show (A % n != 0) = false by rw [r]; rfl]; simp
    · have r2 : ¬ B % n = 0 := by omega
      rw [show (A % n != 0) = true by simpa using r, show (B % n != 0) = true by simpa using r2]
      exact Nat.le_refl _
theorem dq_dbl {a b n c : Nat} (hn : 0 < n) (hc : 2 * n ≤ c) (ha : a < 2 ^ 53) (hb : 2 ^ 52 ≤ b) : dq a n c ≤ 2 * dq b n c := by
  unfold dq
  have h1 : a + 1 ≤ 2 * b := by have : 2 ^ 53 = 2 * 2 ^ 52 := by rw [Nat.pow_succ']
                                omega
  have h2 := Nat.mul_le_mul_right c h1
  rw [Nat.add_mul, Nat.one_mul, Nat.mul_assoc] at h2
  generalize a * c = A at *
  generalize b * c = B at *
  have t1 := toNat_le (A % n != 0)
  have k1 : A / n + 2 ≤ (2 * B) / n := by
    have : (A + 2 * n) / n ≤ (2 * B) / n := Nat.div_le_div_right (by omega)
    rwa [Nat.add_mul_div_right _ _ hn] at this
  have k2 : (2 * B) / n ≤ 2 * (B / n) + 1 := by
    have := Nat.div_add_mod B n
    have := Nat.mod_lt B hn
    have : (2 * B) / n < 2 * (B / n) + 2 := (Nat.div_lt_iff_lt_mul hn).2 (by rw [Nat.add_mul, Nat.mul_assoc, Nat.mul_comm (B / n)]; omega)
    omega
  omega
theorem divW_mono {x z y : Nat} (hz : z < inf) (hy : y < inf) (h0 : 2 ^ 52 ≤ y) (hx0 : x = 0 ∨ 2 ^ 52 ≤ x) (h : x ≤ z) : divW x y ≤ divW z y := by
  have hx : x < inf := Nat.lt_of_le_of_lt h hz
  rcases hx0 with c | hx0
  · subst c; rw [divW_zero hy]; exact Nat.zero_le _
  · have hV := le_V hx hz h
    obtain ⟨m, i, ex, vx, i1, i2, m1, m2, -⟩ := read_eq hx
    obtain ⟨l, k, ez, vz, k1, k2, l1, l2, -⟩ := read_eq hz
    obtain ⟨n, j, ey, vy, j1, j2, n1, n2, -⟩ := read_eq hy
    have m2 := m2 hx0
    have l2 := l2 (Nat.le_trans hx0 h)
    have n2 := n2 h0
    have hn : 0 < n := by have := p2 52; omega
    rw [divW_eq ex ey, divW_eq ez ey, log2_52 m2 m1, log2_52 l2 l1, log2_52 n2 n1]
    refine Rn_mono ?_
    rw [vx, vz] at hV
    have hc : 2 * n ≤ 2 ^ (54 + 52 - 52) := by
      have : 2 ^ 54 = 2 * 2 ^ 53 := by rw [Nat.pow_succ']
      show 2 * n ≤ 2 ^ 54
      omega
    unfold sc at hV ⊢
    by_cases c : i = k
    · subst c
      have := (Nat.mul_le_mul_right_iff (p2 _)).1 hV
      exact Nat.mul_le_mul_right _ (dq_mono hn this)
    · by_cases c2 : k < i
      · exfalso
        have a1 : 2 ^ 52 * 2 ^ (i + 4000).toNat ≤ l * 2 ^ (k + 4000).toNat := Nat.le_trans (Nat.mul_le_mul_right _ m2) hV
        have a2 : l * 2 ^ (k + 4000).toNat < 2 ^ 53 * 2 ^ (k + 4000).toNat := Nat.mul_lt_mul_of_pos_right l1 (p2 _)
        have a3 := Nat.lt_of_le_of_lt a1 a2
        rw [← Nat.pow_add, ← Nat.pow_add, Nat.pow_lt_pow_iff_right (by decide)] at a3
        omega
      · refine Nat.le_trans (Nat.mul_le_mul_right _ (dq_dbl hn hc m1 l2)) ?_
        rw [Nat.mul_comm 2, Nat.mul_assoc, ← Nat.pow_succ']
        exact Nat.mul_le_mul_left _ (pmono (by omega))

/-- A whole number as a word. -/
def I (n : Nat) : Nat := Rn (n * 2 ^ uE)
theorem I_rep {n : Nat} (h : n < 2 ^ 53) : I n < inf ∧ V (I n) = n * 2 ^ uE := rep h (by rw [uE_eq]; decide) (by rw [uE_eq]; decide)
theorem I_lt {n : Nat} (h : n < 2 ^ 53) : I n < inf := (I_rep h).1
theorem V_I {n : Nat} (h : n < 2 ^ 53) : V (I n) = n * 2 ^ uE := (I_rep h).2
theorem I_mono {a b : Nat} (h : a ≤ b) : I a ≤ I b := Rn_mono (Nat.mul_le_mul_right _ h)
theorem I_zero : I 0 = 0 := by unfold I; rw [Nat.zero_mul]; rfl
theorem V52 : ∃ k, k = 2926 ∧ V (2 ^ 52) = 2 ^ 52 * 2 ^ k := by
  refine ⟨2926 + (2 ^ 52 / 2 ^ 52 - 1), by decide, ?_⟩
  unfold V
  rw [if_neg (by decide), show 2 ^ 52 % 2 ^ 52 = 0 by decide, Nat.add_zero]
theorem I_normal {n : Nat} (h : 1 ≤ n) : 2 ^ 52 ≤ I n := by
  refine le_Rn (by decide) ?_
  obtain ⟨k, hk, e⟩ := V52
  rw [e, ← Nat.pow_add]
  refine Nat.le_trans (pmono ?_) (Nat.le_mul_of_pos_left _ h)
  rw [uE_eq]; omega
theorem I_zn (n : Nat) : I n = 0 ∨ 2 ^ 52 ≤ I n := by
  rcases Nat.eq_zero_or_pos n with c | c
  · subst c; exact .inl I_zero
  · exact .inr (I_normal c)
theorem I_lt_iff {a b : Nat} (ha : a < 2 ^ 53) (hb : b < 2 ^ 53) : I a < I b ↔ a < b := by
  rw [← V_lt (I_lt ha) (I_lt hb), V_I ha, V_I hb]
  exact Nat.mul_lt_mul_right (p2 _)
/-- What a word is at most, by a whole number. -/
theorem le_I {x n : Nat} (hx : x < inf) (hn : n < 2 ^ 53) : x ≤ I n ↔ V x ≤ n * 2 ^ uE := by
  rw [← V_I hn]
  exact ⟨le_V hx (I_lt hn), V_le hx (I_lt hn)⟩
theorem ofInt_eq (n : Int) : floatOfInt .f64 n = double.word (decide (n < 0)) (I n.natAbs) := by
  show double.nearest (decide (n < 0)) n.natAbs 0 = _
  rw [nearest_eq _ _ _ (by omega)]
  unfold I sc
  rw [show ((0 : Int) + 4000).toNat = uE by rw [uE_eq]; rfl]
theorem ofNat_eq (n : Nat) : floatOfInt .f64 (n : Int) = I n := by
  rw [ofInt_eq, show decide ((n : Int) < 0) = false from decide_eq_false (by omega), word_f, Int.natAbs_natCast]
theorem addW_le {x y a b : Nat} (hx : x < inf) (hy : y < inf) (hab : a + b < 2 ^ 53) (h : x ≤ I a) (k : y ≤ I b) : addW x y ≤ I (a + b) := by
  refine Rn_le (I_lt hab) ?_
  rw [V_I hab, Nat.add_mul]
  exact Nat.add_le_add ((le_I hx (by omega)).1 h) ((le_I hy (by omega)).1 k)
theorem addW_ge {x y : Nat} (hx : x < inf) : x ≤ addW x y := le_Rn hx (Nat.le_add_right _ _)
theorem subW_le {x y : Nat} (hx : x < inf) : subW x y ≤ x := Rn_le hx (Nat.sub_le _ _)

/-- Negative words. -/
abbrev neg (r : Nat) : Nat := double.word true r
theorem read_neg {r : Nat} (h : r < inf) : ∃ m p, double.read (neg r) = .number true m p ∧ double.read r = .number false m p := by
  have hs : double.signWeight = 2 ^ 63 := rfl
  have h63 : inf < 2 ^ 63 := by decide
  have e0 : neg r = 2 ^ 63 + r := by unfold neg Format.word; rw [if_pos rfl, hs]
  have e1 : r / 2 ^ 63 % 2 = 0 := by rw [Nat.div_eq_of_lt (Nat.lt_trans h h63)]
  have e2 : r % 2 ^ 63 = r := Nat.mod_eq_of_lt (Nat.lt_trans h h63)
  have e3 : (2 ^ 63 + r) / 2 ^ 63 % 2 = 1 := by have := Nat.lt_trans h h63; omega
  have e4 : (2 ^ 63 + r) % 2 ^ 63 = r := by have := Nat.lt_trans h h63; omega
  have hi : double.infRung = inf := by decide
  unfold Format.read
  rw [e0, hs, e1, e2, e3, e4, hi]
  dsimp only
  by_cases c : r < double.binade
  · rw [if_pos c, if_pos c]; exact ⟨_, _, rfl, rfl⟩
  · rw [if_neg c, if_neg c, if_pos h, if_pos h]; exact ⟨_, _, rfl, rfl⟩
theorem add_neg {x y : Nat} (hx : x < inf) (hy : y < inf) : double.add x (neg y) = some (if y ≤ x then subW x y else neg (subW y x)) := by
  have hV := V_lt hx hy
  obtain ⟨m, i, ex, vx, i1, i2, -, -, -⟩ := read_eq hx
  obtain ⟨n, j, ey, vy, j1, j2, -, -, -⟩ := read_eq hy
  obtain ⟨n', j', e3, e4⟩ := read_neg hy
  rw [ey] at e4
  cases e4
  rw [vx, vy, ← sc_up m i (min i j) (by omega) (by omega), ← sc_up n j (min i j) (by omega) (by omega)] at hV
  unfold sc at hV
  rw [Nat.mul_lt_mul_right (p2 _)] at hV
  unfold Format.add subW
  rw [ex, e3]
  have e : ((Datum.number false m i).sum (Datum.number true n j)) = some (.number (decide (m * 2 ^ (i - min i j).toNat < n * 2 ^ (j - min i j).toNat)) (if m * 2 ^ (i - min i j).toNat < n * 2 ^ (j - min i j).toNat then n * 2 ^ (j - min i j).toNat - m * 2 ^ (i - min i j).toNat else m * 2 ^ (i - min i j).toNat - n * 2 ^ (j - min i j).toNat) (min i j)) := by
    unfold Datum.sum signed
    dsimp only
    rw [Nat.shiftLeft_eq, Nat.shiftLeft_eq]
    simp only [Bool.false_eq_true, if_false, if_true]
    generalize m * 2 ^ (i - min i j).toNat = A
    generalize n * 2 ^ (j - min i j).toNat = B
    by_cases c : A < B
    · rw [if_pos c, if_neg (by omega), decide_eq_true (show (A : Int) + -(B : Int) < 0 by omega), decide_eq_true c, show ((A : Int) + -(B : Int)).natAbs = B - A by omega]
    · rw [if_neg c, decide_eq_false c, show ((A : Int) + -(B : Int)).natAbs = A - B by omega]
      congr 1
      congr 1
      split
      · rfl
      · rw [decide_eq_false_iff_not]; omega
  rw [e]
  show some (double.nearest _ _ _) = _
  rw [nearest_eq _ _ _ (by omega)]
  by_cases c : m * 2 ^ (i - min i j).toNat < n * 2 ^ (j - min i j).toNat
  · rw [decide_eq_true c, if_pos c, if_neg (Nat.not_le.2 (hV.1 c)), sc_sub, sc_up _ _ _ (by omega) (by omega), sc_up _ _ _ (by omega) (by omega), ← vx, ← vy]
  · rw [decide_eq_false c, if_neg c, if_pos (Nat.not_lt.1 (fun h => c (hV.2 h))), word_f, sc_sub, sc_up _ _ _ (by omega) (by omega), sc_up _ _ _ (by omega) (by omega), ← vx, ← vy]
/-- A negative one is below what is above nothing. -/
theorem order_neg {x y : Nat} (hx : x < inf) (hy : y < inf) (h : 0 < y) : double.order (neg x) y = some .lt := by
  have hV := (V_lt (a := 0) (by decide) hy).2 h
  rw [V0] at hV
  obtain ⟨n, j, ey, vy, j1, j2, -, -, -⟩ := read_eq hy
  obtain ⟨m, i, e3, -⟩ := read_neg hx
  unfold Format.order
  rw [ey, e3]
  unfold Datum.order signed
  dsimp only
  rw [Nat.shiftLeft_eq, Nat.shiftLeft_eq]
  simp only [Bool.false_eq_true, if_false, if_true]
  congr 1
  have hn : 0 < n := by
    rcases Nat.eq_zero_or_pos n with c | c
    · subst c; rw [vy] at hV; unfold sc at hV; rw [Nat.zero_mul] at hV; omega
    · exact c
  have : 0 < n * 2 ^ (j - min i j).toNat := Nat.mul_pos hn (p2 _)
  rw [Int.compare_eq_lt]
  omega
end Fl
end Go.Proofs.Ythpnbajhogoinaa
