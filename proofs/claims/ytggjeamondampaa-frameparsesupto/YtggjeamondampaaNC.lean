/- Plain: digits and numbers, there and back. -/
import Derived.Test.YtggjeamondampaaNB
namespace Go.Proofs.Ytggjeamondampaa
open Go.RowKit
set_option linter.unusedVariables false
set_option maxRecDepth 100000

theorem pow_pos256 (n : Nat) : (0 : Int) < 256 ^ n := Int.pow_pos (by decide)

theorem pow256_le (n : Nat) (h : n ≤ 8) : (256 : Int) ^ n ≤ 18446744073709551616 := by
  have : n = 0 ∨ n = 1 ∨ n = 2 ∨ n = 3 ∨ n = 4 ∨ n = 5 ∨ n = 6 ∨ n = 7 ∨ n = 8 := by omega
  rcases this with rfl | rfl | rfl | rfl | rfl | rfl | rfl | rfl | rfl <;> decide
theorem rd_sub0 {w : World} {b off : Nat} {l : List Int} (hb : ∀ x ∈ l, IsB x) (hc : ∀ i, i < l.length → w.cell? ⟨b, off + i, none⟩ = some (.int .u8 (l.getD i 0))) (k m : Nat) (h : k + m ≤ l.length) (a : Option Addr) (ha : m ≠ 0 → a = some ⟨b, off + k, none⟩) :
    Rd w a ((l.drop k).take m) := rd_sub hb hc k m h a ha 0

theorem mod_split (v : Int) (n : Nat) : v % 256 ^ (n + 1) = (v / 256 ^ n % 256) * 256 ^ n + v % 256 ^ n := by
  have h1 := Int.mul_ediv_add_emod v (256 ^ n)
  have h2 := Int.mul_ediv_add_emod (v / 256 ^ n) 256
  have hp := pow_pos256 n
  have r0 := Int.emod_nonneg v (show (256 : Int) ^ n ≠ 0 by omega)
  have r1 := Int.emod_lt_of_pos v hp
  have e : v = (v / 256 ^ n / 256) * 256 ^ (n + 1) + ((v / 256 ^ n % 256) * 256 ^ n + v % 256 ^ n) := by
    rw [Int.pow_succ]
    generalize v / 256 ^ n = q at *
    generalize v % 256 ^ n = r at *
    generalize (256 : Int) ^ n = p at *
    generalize q / 256 = q1 at *
    generalize q % 256 = q2 at *
    subst h2
    have e1 : p * (256 * q1 + q2) = 256 * (p * q1) + q2 * p := by rw [Int.mul_add, Int.mul_left_comm, Int.mul_comm p q2]
    have e2 : q1 * (p * 256) = 256 * (p * q1) := by rw [Int.mul_comm p 256, Int.mul_left_comm, Int.mul_comm q1 p]
    rw [e2]
    rw [e1] at h1
    omega
  have b1 : v / 256 ^ n % 256 ≤ 255 := by omega
  have b0 : 0 ≤ v / 256 ^ n % 256 := by omega
  have k : (v / 256 ^ n % 256) * 256 ^ n ≤ 255 * 256 ^ n := Int.mul_le_mul_of_nonneg_right b1 (by omega)
  have k0 : 0 ≤ (v / 256 ^ n % 256) * 256 ^ n := Int.mul_nonneg b0 (by omega)
  have hp1 : (256 : Int) ^ (n + 1) = 256 * 256 ^ n := by rw [Int.pow_succ, Int.mul_comm]
  generalize hm : (v / 256 ^ n % 256) * 256 ^ n + v % 256 ^ n = m at *
  conv => lhs; rw [e]
  rw [Int.add_comm, Int.add_mul_emod_self_right]
  exact Int.emod_eq_of_lt (by omega) (by omega)

theorem joinF_dig (v : Int) (n : Nat) : ∀ u, joinF u (dig v n) = u * 256 ^ n + v % 256 ^ n := by
  induction n with
  | zero => intro u; simp [dig, joinF, Int.emod_one]
  | succ n ih =>
    intro u
    rw [dig, joinF_cons, ih, mod_split, Int.add_mul, Int.pow_succ, Int.mul_assoc, Int.mul_comm 256 (256 ^ n)]
    omega

theorem joinF_div (l : List Int) (hl : ∀ x ∈ l, IsB x) : ∀ u, joinF u l / 256 ^ l.length = u := by
  induction l with
  | nil => intro u; simp [joinF]
  | cons x r ih =>
    intro u
    have hx := hl x (by simp)
    unfold IsB at hx
    rw [joinF_cons, List.length_cons, Int.pow_succ, ← Int.ediv_ediv_of_nonneg (Int.le_of_lt (pow_pos256 _)), ih (fun y hy => hl y (by simp [hy]))]
    omega

theorem dig_joinF (l : List Int) (hl : ∀ x ∈ l, IsB x) : ∀ u, dig (joinF u l) l.length = l := by
  induction l with
  | nil => intro u; rfl
  | cons x r ih =>
    intro u
    have hx := hl x (by simp)
    unfold IsB at hx
    have hr : ∀ y ∈ r, IsB y := fun y hy => hl y (by simp [hy])
    rw [List.length_cons, dig, joinF_cons, joinF_div r hr, ih hr]
    congr 1
    omega

/-- What stands in n bytes comes back. -/
theorem joinF_back (v : Int) (n : Nat) (v0 : 0 ≤ v) (h : v / 256 ^ n = 0) : joinF 0 (dig v n) = v := by
  have h1 := Int.mul_ediv_add_emod v (256 ^ n)
  rw [joinF_dig, Int.zero_mul, Int.zero_add]
  rw [h, Int.mul_zero] at h1
  omega

theorem joinF_bound (l : List Int) (hl : ∀ x ∈ l, IsB x) (h : l.length ≤ 8) : 0 ≤ joinF 0 l ∧ joinF 0 l < 18446744073709551616 := by
  have := joinF_lt l hl 0 1 (by decide) (by decide)
  have h2 := pow256_le l.length h
  omega

theorem dig_zero_head (v : Int) (n : Nat) (h : v / 256 ^ n = 0) : dig v (n + 1) = 0 :: dig v n := by
  rw [dig, h]
  rfl

theorem rd_below {w w' : World} {a : Option Addr} {l : List Int} (h : Rd w a l) (hb : Below w.heap.size w w') : Rd w' a l := by
  refine ⟨h.1, fun hne => ?_⟩
  obtain ⟨b, off, e, hc⟩ := h.2 hne
  refine ⟨b, off, e, fun i hi => ?_⟩
  have := hc i hi
  rw [hb.cell (p := ⟨b, off + i, none⟩) (World.block_lt_of_cell? w _ this)]
  exact this

end Go.Proofs.Ytggjeamondampaa
