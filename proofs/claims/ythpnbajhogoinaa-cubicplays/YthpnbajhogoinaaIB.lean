/- The operations on words that are not negative, by what they stand for. -/
import Derived.Test.YthpnbajhogoinaaIA
import Derived.Laws.FloatArith
namespace Go.Proofs.Ythpnbajhogoinaa
set_option linter.unusedVariables false
set_option maxRecDepth 100000
namespace Fl
open Ieee

theorem read_eq {r : Nat} (h : r < inf) : ∃ m p, double.read r = .number false m p ∧ V r = sc m p ∧ -1074 ≤ p ∧ p ≤ 971 ∧ m < 2 ^ 53 ∧ (2 ^ 52 ≤ r → 2 ^ 52 ≤ m) ∧ (r = 0 → m = 0) := by
  have hs : double.signWeight = 2 ^ 63 := rfl
  have hb : double.binade = 2 ^ 52 := rfl
  have hi : double.infRung = inf := by decide
  have hlp : double.leastPlace = -1074 := by decide
  have h63 : inf < 2 ^ 63 := by decide
  have e1 : r / 2 ^ 63 % 2 = 0 := by rw [Nat.div_eq_of_lt (Nat.lt_trans h h63)]
  have e2 : r % 2 ^ 63 = r := Nat.mod_eq_of_lt (Nat.lt_trans h h63)
  unfold Format.read
  rw [hs, hb, hi, hlp, e1, e2]
  dsimp only
  by_cases c : r < 2 ^ 52
  · rw [if_pos c]
    refine ⟨r, -1074, rfl, ?_, by omega, by omega, by omega, by omega, fun h => h⟩
    unfold V sc
    rw [if_pos c, show ((-1074 : Int) + 4000).toNat = 2926 by decide]
  · rw [if_neg c, if_pos h]
    have hm : r % 2 ^ 52 < 2 ^ 52 := Nat.mod_lt _ (p2 52)
    have hd := Nat.div_add_mod r (2 ^ 52)
    have hq : 1 ≤ r / 2 ^ 52 := by omega
    have hq2 : r / 2 ^ 52 ≤ 2046 := by unfold inf at h; omega
    refine ⟨2 ^ 52 + r % 2 ^ 52, -1074 + ((r / 2 ^ 52 - 1 : Nat) : Int), rfl, ?_, by omega, by omega, by omega, by omega, by omega⟩
    unfold V sc
    rw [if_neg c, show (-1074 + ((r / 2 ^ 52 - 1 : Nat) : Int) + 4000).toNat = 2926 + (r / 2 ^ 52 - 1) by omega]

theorem word_f (r : Nat) : double.word false r = r := by unfold Format.word; rw [if_neg (by decide)]
/-- The sum, the difference, the product. -/
def addW (x y : Nat) : Nat := Rn (V x + V y)
def subW (x y : Nat) : Nat := Rn (V x - V y)
def mulW (x y : Nat) : Nat := Rn (V x * V y / 2 ^ uE)

theorem sc_up (m : Nat) (i b : Int) (hb : b ≤ i) (h0 : -4000 ≤ b) : sc (m * 2 ^ (i - b).toNat) b = sc m i := by
  unfold sc
  rw [Nat.mul_assoc, ← Nat.pow_add, show (i - b).toNat + (b + 4000).toNat = (i + 4000).toNat by omega]
theorem sc_add (m n : Nat) (b : Int) : sc (m + n) b = sc m b + sc n b := by unfold sc; rw [Nat.add_mul]
theorem sc_sub (m n : Nat) (b : Int) : sc (m - n) b = sc m b - sc n b := by unfold sc; rw [Nat.sub_mul]
theorem sc_le {m n : Nat} {b : Int} : sc m b ≤ sc n b ↔ m ≤ n := by unfold sc; exact Nat.mul_le_mul_right_iff (p2 _)

theorem add_eq {x y : Nat} (hx : x < inf) (hy : y < inf) : double.add x y = some (addW x y) := by
  obtain ⟨m, i, ex, vx, i1, i2, -, -, -⟩ := read_eq hx
  obtain ⟨n, j, ey, vy, j1, j2, -, -, -⟩ := read_eq hy
  unfold Format.add addW
  rw [ex, ey]
  have e : ((Datum.number false m i).sum (Datum.number false n j)) = some (.number false (m * 2 ^ (i - min i j).toNat + n * 2 ^ (j - min i j).toNat) (min i j)) := by
    unfold Datum.sum signed
    dsimp only
    rw [Nat.shiftLeft_eq, Nat.shiftLeft_eq]
    have : ((m * 2 ^ (i - min i j).toNat : Nat) : Int) + ((n * 2 ^ (j - min i j).toNat : Nat) : Int) = ((m * 2 ^ (i - min i j).toNat + n * 2 ^ (j - min i j).toNat : Nat) : Int) := by omega
    simp only [Bool.false_eq_true, if_false]
    rw [this]
    congr 1
    congr 1
    split
    · rfl
    · rw [decide_eq_false_iff_not]; omega
  rw [e]
  show some (double.nearest false _ _) = _
  rw [nearest_eq _ _ _ (by omega), word_f, sc_add, sc_up _ _ _ (by omega) (by omega), sc_up _ _ _ (by omega) (by omega), ← vx, ← vy]
theorem sub_eq {x y : Nat} (hx : x < inf) (hy : y < inf) (h : y ≤ x) : double.sub x y = some (subW x y) := by
  have hV := le_V hy hx h
  obtain ⟨m, i, ex, vx, i1, i2, -, -, -⟩ := read_eq hx
  obtain ⟨n, j, ey, vy, j1, j2, -, -, -⟩ := read_eq hy
  rw [vx, vy, ← sc_up m i (min i j) (by omega) (by omega), ← sc_up n j (min i j) (by omega) (by omega), sc_le] at hV
  unfold Format.sub subW
  rw [ex, ey]
  have e : ((Datum.number false m i).sum (Datum.number false n j).opposite) = some (.number false (m * 2 ^ (i - min i j).toNat - n * 2 ^ (j - min i j).toNat) (min i j)) := by
    unfold Datum.opposite Datum.sum signed
    dsimp only
    rw [Nat.shiftLeft_eq, Nat.shiftLeft_eq]
    have : ((m * 2 ^ (i - min i j).toNat : Nat) : Int) + -((n * 2 ^ (j - min i j).toNat : Nat) : Int) = ((m * 2 ^ (i - min i j).toNat - n * 2 ^ (j - min i j).toNat : Nat) : Int) := by omega
    simp only [Bool.false_eq_true, if_false, Bool.not_false, if_true]
    rw [this]
    congr 1
    congr 1
    split
    · rfl
    · rw [decide_eq_false_iff_not]; omega
  rw [e]
  show some (double.nearest false _ _) = _
  rw [nearest_eq _ _ _ (by omega), word_f, sc_sub, sc_up _ _ _ (by omega) (by omega), sc_up _ _ _ (by omega) (by omega), ← vx, ← vy]
theorem sc_mul (m n : Nat) (i j : Int) (hi : -2000 ≤ i) (hj : -2000 ≤ j) : sc (m * n) (i + j) = sc m i * sc n j / 2 ^ uE := by
  unfold sc
  have e : m * 2 ^ (i + 4000).toNat * (n * 2 ^ (j + 4000).toNat) = (m * n * 2 ^ (i + j + 4000).toNat) * 2 ^ uE := by
    rw [Nat.mul_mul_mul_comm, ← Nat.pow_add, Nat.mul_assoc (m * n), ← Nat.pow_add, show (i + 4000).toNat + (j + 4000).toNat = (i + j + 4000).toNat + uE by rw [uE_eq]; omega]
  rw [e, Nat.mul_div_cancel _ (p2 uE)]
theorem mul_any (a b : Bool) {x y : Nat} {X Y : Nat} (hx : x < inf) (hy : y < inf) (eX : ∃ m p, double.read X = .number a m p ∧ double.read x = .number false m p) (eY : ∃ m p, double.read Y = .number b m p ∧ double.read y = .number false m p) : double.mul X Y = some (double.word (a ^^ b) (mulW x y)) := by
  obtain ⟨m, i, ex, vx, i1, i2, -, -, -⟩ := read_eq hx
  obtain ⟨n, j, ey, vy, j1, j2, -, -, -⟩ := read_eq hy
  obtain ⟨m', i', e1, e2⟩ := eX
  obtain ⟨n', j', e3, e4⟩ := eY
  rw [ex] at e2
  rw [ey] at e4
  cases e2
  cases e4
  unfold Format.mul mulW
  rw [e1, e3]
  show some (double.nearest (a ^^ b) (m * n) (i + j)) = _
  rw [nearest_eq _ _ _ (by omega), sc_mul _ _ _ _ (by omega) (by omega), ← vx, ← vy]
theorem read_pos {x : Nat} (hx : x < inf) : ∃ m p, double.read x = .number false m p ∧ double.read x = .number false m p := by
  obtain ⟨m, i, ex, -⟩ := read_eq hx
  exact ⟨m, i, ex, ex⟩
theorem mul_eq {x y : Nat} (hx : x < inf) (hy : y < inf) : double.mul x y = some (mulW x y) := by
  have h := mul_any false false hx hy (read_pos hx) (read_pos hy)
  rwa [show (false ^^ false) = false from rfl, word_f] at h
theorem mulW_mono {x y a b : Nat} (hx : x < inf) (hy : y < inf) (ha : a < inf) (hb : b < inf) (h : x ≤ a) (k : y ≤ b) : mulW x y ≤ mulW a b :=
  Rn_mono (Nat.div_le_div_right (Nat.mul_le_mul (le_V hx ha h) (le_V hy hb k)))

/-- How two stand to one another. -/
theorem order_eq {x y : Nat} (hx : x < inf) (hy : y < inf) : double.order x y = some (compare x y) := by
  have hV := V_lt hx hy
  have hV2 := V_lt hy hx
  obtain ⟨m, i, ex, vx, i1, i2, -, -, -⟩ := read_eq hx
  obtain ⟨n, j, ey, vy, j1, j2, -, -, -⟩ := read_eq hy
  rw [vx, vy, ← sc_up m i (min i j) (by omega) (by omega), ← sc_up n j (min i j) (by omega) (by omega)] at hV hV2
  unfold sc at hV hV2
  rw [Nat.mul_lt_mul_right (p2 _)] at hV hV2
  unfold Format.order
  rw [ex, ey]
  unfold Datum.order signed
  dsimp only
  rw [Nat.shiftLeft_eq, Nat.shiftLeft_eq]
  simp only [Bool.false_eq_true, if_false]
  congr 1
  generalize m * 2 ^ (i - min i j).toNat = A at *
  generalize n * 2 ^ (j - min i j).toNat = B at *
  rcases Nat.lt_trichotomy x y with c | c | c
  · rw [Nat.compare_eq_lt.2 c, Int.compare_eq_lt]; omega
  · subst c; rw [Nat.compare_eq_eq.2 rfl, Int.compare_eq_eq]; omega
  · rw [Nat.compare_eq_gt.2 c, Int.compare_eq_gt]; omega

/-- To a whole number. -/
theorem toInt_eq {x : Nat} (hx : x < inf) : (double.read x).toInt .zero = some ((V x / 2 ^ uE : Nat) : Int) := by
  obtain ⟨m, i, ex, vx, i1, i2, -, -, -⟩ := read_eq hx
  rw [ex, vx]
  unfold Datum.toInt Datum.integral
  dsimp only
  unfold signed Toward.cut sc
  dsimp only
  rw [Nat.shiftLeft_eq, Nat.shiftLeft_eq]
  simp only [Bool.false_eq_true, if_false, Nat.pow_zero, Nat.mul_one, Bool.toNat_false, Nat.add_zero]
  congr 2
  rw [Nat.one_shiftLeft]
  by_cases c : 0 ≤ i
  · rw [show (-i).toNat = 0 by omega, show min 0 ((m * 2 ^ i.toNat).log2 + 2) = 0 by omega, Nat.pow_zero, Nat.div_one]
    rw [show (i + 4000).toNat = i.toNat + uE by rw [uE_eq]; omega, Nat.pow_add, ← Nat.mul_assoc, Nat.mul_div_cancel _ (p2 uE)]
  · rw [show i.toNat = 0 by omega, Nat.pow_zero, Nat.mul_one]
    have e : 2 ^ uE = 2 ^ (i + 4000).toNat * 2 ^ (-i).toNat := by rw [← Nat.pow_add, show (i + 4000).toNat + (-i).toNat = uE by rw [uE_eq]; omega]
    rw [e, Nat.mul_comm m, Nat.mul_div_mul_left _ _ (p2 _)]
    by_cases c3 : (-i).toNat ≤ m.log2 + 2
    · rw [Nat.min_eq_left c3]
    · rw [Nat.min_eq_right (by omega)]
      have small : ∀ j, m.log2 + 2 ≤ j → m / 2 ^ j = 0 := by
        intro j hj
        have h1 : m < 2 ^ (m.log2 + 1) := Nat.lt_log2_self
        have h2 := pmono (show m.log2 + 1 ≤ j by omega)
        exact Nat.div_eq_of_lt (by omega)
      rw [small _ (Nat.le_refl _), small _ (by omega)]
end Fl
end Go.Proofs.Ythpnbajhogoinaa
