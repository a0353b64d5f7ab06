/- Plain: the order of sized numbers is the order of their bytes. -/
import Derived.Test.YtpcnpdippnljpaaKD
namespace Go.Proofs.Ytpcnpdippnljpaa
open Go.RowKit
set_option maxRecDepth 100000
set_option linter.unusedVariables false

def lexL : List Int → List Int → Bool
  | _, [] => false
  | [], _ :: _ => true
  | a :: x, b :: y => decide (a < b) || (decide (a = b) && lexL x y)

def u8 (n : Int) : UInt8 := UInt8.ofNat n.toNat

theorem u8_lt {a b : Int} (ha : IsB a) (hb : IsB b) : (u8 a < u8 b) ↔ a < b := by
  unfold IsB at ha hb
  unfold u8
  rw [UInt8.lt_iff_toNat_lt, UInt8.toNat_ofNat', UInt8.toNat_ofNat']
  omega
theorem u8_eq {a b : Int} (ha : IsB a) (hb : IsB b) : (u8 a = u8 b) ↔ a = b := by
  unfold IsB at ha hb
  unfold u8
  rw [← UInt8.toNat_inj, UInt8.toNat_ofNat', UInt8.toNat_ofNat']
  omega

theorem bytesLess_lex : ∀ (l m : List Int), (∀ x ∈ l, IsB x) → (∀ x ∈ m, IsB x) → Op.bytesLess (l.map u8) (m.map u8) = lexL l m
  | l, [], _, _ => by cases l <;> rfl
  | [], _ :: _, _, _ => rfl
  | a :: x, b :: y, hl, hm => by
    have ih := bytesLess_lex x y (fun z hz => hl z (by simp [hz])) (fun z hz => hm z (by simp [hz]))
    have e1 := u8_lt (hl a (by simp)) (hm b (by simp))
    have e2 := u8_eq (hl a (by simp)) (hm b (by simp))
    simp only [List.map_cons, Op.bytesLess, lexL, ih]
    congr 1
    · exact decide_eq_decide.2 e1
    · congr 1
      rw [Bool.eq_iff_iff, beq_iff_eq, decide_eq_true_iff]
      exact e2

theorem lex_self : ∀ l, lexL l l = false
  | [] => rfl
  | a :: x => by simp [lexL, lex_self x]

theorem map_u8_inj : ∀ (l m : List Int), (∀ x ∈ l, IsB x) → (∀ x ∈ m, IsB x) → (l.map u8 = m.map u8 ↔ l = m)
  | [], [], _, _ => by simp
  | [], _ :: _, _, _ => by simp
  | _ :: _, [], _, _ => by simp
  | a :: x, b :: y, hl, hm => by
    have ih := map_u8_inj x y (fun z hz => hl z (by simp [hz])) (fun z hz => hm z (by simp [hz]))
    have e2 := u8_eq (hl a (by simp)) (hm b (by simp))
    simp [e2, ih]

theorem dig_byte (v : Int) (n : Nat) : ∀ x ∈ dig v n, IsB x := by
  induction n with
  | zero => simp [dig]
  | succ n ih =>
    intro x hx
    simp only [dig, List.mem_cons] at hx
    rcases hx with rfl | hx
    · unfold IsB; omega
    · exact ih x hx

theorem layF_byte (v : Int) (n : Nat) (h0 : 0 ≤ v) (h : Fits v n) : ∀ x ∈ layF v n, IsB x := by
  have key : ∀ (m : Nat) (c : Int), 0 ≤ v / 256 ^ m % 256 + c → v / 256 ^ m % 256 + c ≤ 255 → ∀ x ∈ (v / 256 ^ m % 256 + c) :: dig v m, IsB x := fun m c h1 h2 x hx => by
    simp only [List.mem_cons] at hx
    rcases hx with rfl | hx
    · exact ⟨h1, h2⟩
    · exact dig_byte v m x hx
  rcases h with ⟨rfl, h⟩ | ⟨rfl, h⟩ | ⟨rfl, h⟩ | ⟨rfl, h⟩
  · exact key 0 0 (by simp; omega) (by simp; omega)
  · exact key 1 64 (by simp; omega) (by simp; omega)
  · exact key 3 128 (by simp; omega) (by simp; omega)
  · exact key 7 192 (by simp; omega) (by simp; omega)

theorem lex_num (a b p r s : Int) (hp : 0 < p) (r0 : 0 ≤ r) (r1 : r < p) (s0 : 0 ≤ s) (s1 : s < p) : (a * p + r < b * p + s) ↔ (a < b ∨ (a = b ∧ r < s)) := by
  rcases Int.lt_trichotomy a b with h | h | h
  · have : (a + 1) * p ≤ b * p := Int.mul_le_mul_of_nonneg_right h (by omega)
    rw [Int.add_mul, Int.one_mul] at this
    constructor
    · intro _; exact .inl h
    · intro _; omega
  · subst h; omega
  · have : (b + 1) * p ≤ a * p := Int.mul_le_mul_of_nonneg_right h (by omega)
    rw [Int.add_mul, Int.one_mul] at this
    omega

theorem pow_pos256 (n : Nat) : (0 : Int) < 256 ^ n := Int.pow_pos (by decide)

theorem mod_split (v : Int) (n : Nat) : v % 256 ^ (n + 1) = (v / 256 ^ n % 256) * 256 ^ n + v % 256 ^ n := by
  have h1 := Int.mul_ediv_add_emod v (256 ^ n)
  have h2 := Int.mul_ediv_add_emod (v / 256 ^ n) 256
  have hp := pow_pos256 n
  have r0 := Int.emod_nonneg v (show (256 : Int) ^ n ≠ 0 by omega)
  have r1 := Int.emod_lt_of_pos v hp
  have e : v = (v / 256 ^ n / 256) * 256 ^ (n + 1) + ((v / 256 ^ n % 256) * 256 ^ n + v % 256 ^ n) := by
    rw [Int.pow_succ]
    generalize v / 256 ^ n = q at *
    generalize v % 256 ^ n = r at *
    generalize (256 : Int) ^ n = p at *
    generalize q / 256 = q1 at *
    generalize q % 256 = q2 at *
    subst h2
    have e1 : p * (256 * q1 + q2) = 256 * (p * q1) + q2 * p := by rw [Int.mul_add, Int.mul_left_comm, Int.mul_comm p q2]
    have e2 : q1 * (p * 256) = 256 * (p * q1) := by rw [Int.mul_comm p 256, Int.mul_left_comm, Int.mul_comm q1 p]
    rw [e2]
    rw [e1] at h1
    omega
  have b1 : v / 256 ^ n % 256 ≤ 255 := by omega
  have b0 : 0 ≤ v / 256 ^ n % 256 := by omega
  have k : (v / 256 ^ n % 256) * 256 ^ n ≤ 255 * 256 ^ n := Int.mul_le_mul_of_nonneg_right b1 (by omega)
  have k0 : 0 ≤ (v / 256 ^ n % 256) * 256 ^ n := Int.mul_nonneg b0 (by omega)
  have hp1 : (256 : Int) ^ (n + 1) = 256 * 256 ^ n := by rw [Int.pow_succ, Int.mul_comm]
  generalize hm : (v / 256 ^ n % 256) * 256 ^ n + v % 256 ^ n = m at *
  conv => lhs; rw [e]
  rw [Int.add_comm, Int.add_mul_emod_self_right]
  exact Int.emod_eq_of_lt (by omega) (by omega)

theorem lex_dig (v u : Int) (n : Nat) : lexL (dig v n) (dig u n) = decide (v % 256 ^ n < u % 256 ^ n) := by
  induction n with
  | zero => simp [dig, lexL, Int.emod_one]
  | succ n ih =>
    have hp := pow_pos256 n
    have := lex_num (v / 256 ^ n % 256) (u / 256 ^ n % 256) (256 ^ n) (v % 256 ^ n) (u % 256 ^ n) hp (Int.emod_nonneg v (by omega)) (Int.emod_lt_of_pos v hp) (Int.emod_nonneg u (by omega)) (Int.emod_lt_of_pos u hp)
    simp only [dig, lexL, ih]
    rw [mod_split v n, mod_split u n, Bool.eq_iff_iff]
    simp [this]

theorem lex_lay_same (v u : Int) (n : Nat) (hn : n ≠ 0) : lexL (layF v n) (layF u n) = lexL (dig v n) (dig u n) := by
  obtain ⟨m, rfl⟩ := Nat.exists_eq_succ_of_ne_zero hn
  simp only [layF, dig, Nat.succ_eq_add_one, lexL]
  congr 1
  · exact decide_eq_decide.2 (by omega)
  · congr 1
    exact decide_eq_decide.2 (by omega)

theorem lex_lay (v u : Int) (v0 : 0 ≤ v) (u0 : 0 ≤ u) (hv : v ≤ 4611686018427387903) (hu : u ≤ 4611686018427387903) : lexL (layF v (sizeF v)) (layF u (sizeF u)) = decide (v < u) := by
  by_cases hs : sizeF v = sizeF u
  · rw [← hs, lex_lay_same v u _ (by unfold sizeF; (repeat' split) <;> omega), lex_dig]
    have : ∀ t : Int, 0 ≤ t → t ≤ 4611686018427387903 → t % 256 ^ sizeF t = t := fun t t0 t1 => by
      unfold sizeF
      (repeat' split) <;> (try simp) <;> omega
    have e1 := this v v0 hv
    have e2 := this u u0 hu
    rw [← hs] at e2
    rw [e1, e2]
  · revert hs
    have head : ∀ t : Int, 0 ≤ t → t ≤ 4611686018427387903 → ∃ x r, layF t (sizeF t) = x :: r ∧ ((t < 64 ∧ sizeF t = 1 ∧ x < 64) ∨ (64 ≤ t ∧ t < 16384 ∧ sizeF t = 2 ∧ 64 ≤ x ∧ x < 128) ∨ (16384 ≤ t ∧ t < 1073741824 ∧ sizeF t = 4 ∧ 128 ≤ x ∧ x < 192) ∨ (1073741824 ≤ t ∧ sizeF t = 8 ∧ 192 ≤ x)) := fun t t0 t1 => by
      unfold sizeF
      split
      · exact ⟨_, _, rfl, by simp [markF]; omega⟩
      · split
        · exact ⟨_, _, rfl, by simp [markF]; omega⟩
        · split
          · exact ⟨_, _, rfl, by simp [markF]; omega⟩
          · exact ⟨_, _, rfl, by simp [markF]; omega⟩
    obtain ⟨x, r, ex, hx⟩ := head v v0 hv
    obtain ⟨y, q, ey, hy⟩ := head u u0 hu
    intro hs
    rw [ex, ey]
    simp only [lexL]
    rw [Bool.eq_iff_iff]
    simp
    omega

theorem lay_eq_iff (v u : Int) (v0 : 0 ≤ v) (u0 : 0 ≤ u) (hv : v ≤ 4611686018427387903) (hu : u ≤ 4611686018427387903) : layF v (sizeF v) = layF u (sizeF u) ↔ v = u := by
  constructor
  · intro h
    have e1 := lex_lay v u v0 u0 hv hu
    have e2 := lex_lay u v u0 v0 hu hv
    rw [h, lex_self] at e1
    rw [h, lex_self] at e2
    simp at e1 e2
    omega
  · rintro rfl; rfl

/-- What the walk asks. -/
theorem str_less (v u : Int) (v0 : 0 ≤ v) (u0 : 0 ≤ u) (hv : v ≤ 4611686018427387903) (hu : u ≤ 4611686018427387903) :
    Op.bytesLess (strOfNums (layF v (sizeF v))).toList (strOfNums (layF u (sizeF u))).toList = decide (v < u) := by
  rw [str_toList, str_toList]
  exact (bytesLess_lex _ _ (layF_byte v _ v0 (fits_size v hv)) (layF_byte u _ u0 (fits_size u hu))).trans (lex_lay v u v0 u0 hv hu)
theorem str_eq (v u : Int) (v0 : 0 ≤ v) (u0 : 0 ≤ u) (hv : v ≤ 4611686018427387903) (hu : u ≤ 4611686018427387903) :
    ((strOfNums (layF v (sizeF v))).toList == (strOfNums (layF u (sizeF u))).toList) = (v == u) := by
  rw [str_toList, str_toList, Bool.eq_iff_iff, beq_iff_eq, beq_iff_eq]
  exact (map_u8_inj _ _ (layF_byte v _ v0 (fits_size v hv)) (layF_byte u _ u0 (fits_size u hu))).trans (lay_eq_iff v u v0 u0 hv hu)
end Go.Proofs.Ytpcnpdippnljpaa
