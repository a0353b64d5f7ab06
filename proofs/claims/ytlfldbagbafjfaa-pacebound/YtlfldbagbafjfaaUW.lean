/- math/bits: Len64 off the shelf, LeadingZeros64; Div64 whole. -/
import Derived.Test.YtlfldbagbafjfaaUV
import Derived.Shelf.Strconv.Itoa0
import Derived.Shelf.Lay
import Derived.Lib.ItoaNum
import Derived.Ground.NamesProg
namespace Go.Proofs.Ytlfldbagbafjfaa
open Go.Shelf Go.RowKit Go.Lib
set_option linter.unusedVariables false
set_option maxRecDepth 100000
set_option maxHeartbeats 1000000

shelf_lay Lays.n129 Nm 129 at Try as Try.bitsLen64

theorem len64_any (x : Int) (hx : u64B x) (w : World) :
    Calls Try.prog 33 #[.int .u64 x] w fun e w' => e = .returned (.int .i64 (Lib.bitLen x.toNat : Nat)) ∧ w' = w :=
  Any.bits_Len64 Try.bitsLen64 x w hx.1 (by have := hx.2; omega)

theorem lz_any (y : Int) (h : 1 ≤ y ∧ y < 18446744073709551616) : ∃ s : Int, (0 ≤ s ∧ s ≤ 63) ∧ (9223372036854775808 ≤ y * 2 ^ s.toNat ∧ y * 2 ^ s.toNat < 18446744073709551616) ∧
    ∀ W, Calls Try.prog 32 #[.int .u64 y] W fun e w' => e = .returned (.int .i64 s) ∧ w' = W := by
  obtain ⟨n, rfl⟩ : ∃ n : Nat, y = n := ⟨y.toNat, by omega⟩
  have hb := Lib.bitLenAux_bounds 64 n (by omega) (by omega)
  have hl := Lib.bitLen_le n 64 (by omega) (by omega)
  have L := fun W => len64_any (n : Int) ⟨by omega, h.2⟩ W
  rw [Int.toNat_natCast] at L
  change 1 ≤ Lib.bitLen n ∧ 2 ^ (Lib.bitLen n - 1) ≤ n ∧ n < 2 ^ Lib.bitLen n at hb
  generalize Lib.bitLen n = k at *
  refine ⟨64 - (k : Int), by omega, ?_, fun W => ?_⟩
  · have e : (64 - (k : Int)).toNat = 64 - k := by omega
    rw [e]
    have p1 : 2 ^ (k - 1) * 2 ^ (64 - k) ≤ n * 2 ^ (64 - k) := Nat.mul_le_mul_right _ hb.2.1
    have p2 : n * 2 ^ (64 - k) < 2 ^ k * 2 ^ (64 - k) := Nat.mul_lt_mul_of_pos_right hb.2.2 (Nat.two_pow_pos _)
    rw [← Nat.pow_add, show k - 1 + (64 - k) = 63 by omega] at p1
    rw [← Nat.pow_add, show k + (64 - k) = 64 by omega] at p2
    have c : ((n * 2 ^ (64 - k) : Nat) : Int) = (n : Int) * 2 ^ (64 - k) := by simp
    rw [← c]
    generalize n * 2 ^ (64 - k) = M at *
    omega
  · have l1 : (k : Int) ≤ 64 := by omega
    have l0 : 0 ≤ (k : Int) := by omega
    have e8 : IntKind.i64.wrap (64 - (k : Int)) = 64 - (k : Int) := by rw [IntKind.wrap_i64]; omega
    have L' := L W
    clear hb hl L
    generalize (k : Int) = K at *
    go_enter Try.func32, Try.ntmps32
    go_wp2_with fail
    refine L'.mono ?_
    rintro e W1 ⟨rfl, rfl⟩
    go_wp2_with fail
    go_ret
    exact ⟨rfl, rfl⟩

theorem or_join (s : Nat) (a b : Int) (ha : 0 ≤ a) (hb : 0 ≤ b ∧ b < 2 ^ s) (hab : a * 2 ^ s + b < 18446744073709551616) : bits .or .u64 (a * 2 ^ s) b = a * 2 ^ s + b := by
  obtain ⟨n, rfl⟩ := Int.eq_ofNat_of_zero_le ha
  obtain ⟨m, rfl⟩ := Int.eq_ofNat_of_zero_le hb.1
  have e : ((n : Int) * 2 ^ s) = ((n * 2 ^ s : Nat) : Int) := by simp
  have hm : m < 2 ^ s := by have := hb.2; rw [show ((2 : Int) ^ s) = ((2 ^ s : Nat) : Int) by simp] at this; omega
  rw [e] at hab ⊢
  have nn : n * 2 ^ s + m < 18446744073709551616 := by omega
  rw [u64_or_nat (n * 2 ^ s) m (by omega) (by omega), nat_join s (n * 2 ^ s) m (Nat.mul_mod_left _ _) hm]
  omega

/-- The greater divided by the less, both raised. -/
theorem quo_raised (N y P Y Q1 Q0 R1 R0 U d1 d0 : Int) (hP : 1 ≤ P) (hy : 1 ≤ y) (hY : Y = y * P) (hN : (U * 4294967296 + d1) * 4294967296 + d0 = N * P)
    (h1 : Q1 * Y + R1 = U * 4294967296 + d1) (h0 : Q0 * Y + R0 = R1 * 4294967296 + d0) (hr : 0 ≤ R0 ∧ R0 < Y) : Q1 * 4294967296 + Q0 = N / y ∧ R0 / P = N % y := by
  have e : N * P = (Q1 * 4294967296 + Q0) * (y * P) + R0 := by
    have e0 : (Q1 * 4294967296 + Q0) * Y = Q1 * Y * 4294967296 + Q0 * Y := by rw [Int.add_mul, Int.mul_right_comm]
    rw [← hN, ← hY, e0]
    generalize Q1 * Y = A at *
    generalize Q0 * Y = B at *
    omega
  generalize Q1 * 4294967296 + Q0 = Q at *
  have e2 : R0 = (N - Q * y) * P := by rw [Int.sub_mul, e, Int.mul_assoc]; omega
  have q1 : R0 / P = N - Q * y := by rw [e2]; exact Int.mul_ediv_cancel _ (by omega)
  have b0 : 0 ≤ N - Q * y := by rw [← q1]; exact Int.ediv_nonneg hr.1 (by omega)
  have b1 : N - Q * y < y := by rw [← q1]; rw [Int.ediv_lt_iff_lt_mul (by omega)]; omega
  have hN' : N = (N - Q * y) + y * Q := by rw [Int.mul_comm]; omega
  have d : N / y = Q := by
    rw [hN', Int.add_mul_ediv_left _ _ (by omega), Int.ediv_eq_zero_of_lt b0 b1]; omega
  have m : N % y = N - Q * y := by
    rw [hN', Int.add_mul_emod_self_left, Int.emod_eq_of_lt b0 b1]; omega
  exact ⟨d.symm, by rw [q1, m]⟩

theorem div64_any (hi lo y : Int) (hh : 0 ≤ hi ∧ hi < y) (hl : u64B lo) (hy : y < 18446744073709551616) (w : World) :
    Calls Try.prog 31 #[.int .u64 hi, .int .u64 lo, .int .u64 y] w fun e w' => e = .returned (.tuple #[.int .u64 ((hi * 18446744073709551616 + lo) / y), .int .u64 ((hi * 18446744073709551616 + lo) % y)]) ∧ ∃ q, w' = w.drewN q := by
  by_cases h0 : hi = 0
  · subst h0
    obtain ⟨l1, l2⟩ := hl
    have y0 : ¬ y ≤ 0 := by omega
    have nz : y ≠ 0 := by omega
    have e1 : IntKind.u64.wrap (lo.tdiv y) = lo / y := by
      rw [Int.tdiv_eq_ediv_of_nonneg l1, IntKind.wrap_u64]
      exact Int.emod_eq_of_lt (Int.ediv_nonneg l1 (by omega)) (Int.lt_of_le_of_lt (Int.ediv_le_self y l1) l2)
    have e2 : IntKind.u64.wrap (lo.tmod y) = lo % y := by
      have a := Int.emod_nonneg lo nz
      have b := Int.emod_lt_of_pos lo (show 0 < y by omega)
      rw [Int.tmod_eq_emod_of_nonneg l1, IntKind.wrap_u64]
      omega
    rw [Int.zero_mul, Int.zero_add]
    clear hh
    go_enter Try.func31, Try.ntmps31
    go_wp2_with fail
    go_quiet (fail)
    all_goals go_wp2_with fail
    all_goals go_ret2
    all_goals exact ⟨rfl, _, rfl⟩
  · obtain ⟨s, hs, hY, LZ⟩ := lz_any y (by omega)
    obtain ⟨k, rfl⟩ : ∃ k : Nat, s = k := ⟨s.toNat, by omega⟩
    rw [Int.toNat_natCast] at hY
    have hP : (1 : Int) ≤ 2 ^ k := by have : (0 : Int) < 2 ^ k := Int.pow_pos (by decide); omega
    have hK : (1 : Int) ≤ 2 ^ (64 - k) := by have : (0 : Int) < 2 ^ (64 - k) := Int.pow_pos (by decide); omega
    have KP : (2 : Int) ^ (64 - k) * 2 ^ k = 18446744073709551616 := by rw [← Int.pow_add, show 64 - k + k = 64 by omega]; rfl
    have t64 : (64 - (k : Int)).toNat = 64 - k := by omega
    have W := div64_walk hi lo y k (y * 2 ^ k) (hi * 2 ^ k + lo / 2 ^ (64 - k)) (lo * 2 ^ k % 18446744073709551616) (y * 2 ^ k / 4294967296) (y * 2 ^ k % 4294967296) (lo * 2 ^ k % 18446744073709551616 / 4294967296) (lo * 2 ^ k % 18446744073709551616 % 4294967296) ⟨by omega, hh.2⟩ (by omega) w
    rw [Int.toNat_natCast, t64] at W
    generalize hPe : (2 : Int) ^ k = P at *
    generalize (2 : Int) ^ (64 - k) = K at *
    have lq : lo / K = lo * P / 18446744073709551616 := by rw [← KP]; exact (Int.mul_ediv_mul_of_pos_left lo K (by omega)).symm
    have lb0 : 0 ≤ lo / K := Int.ediv_nonneg hl.1 (by omega)
    have lb1 : lo / K < P := by rw [Int.ediv_lt_iff_lt_mul (by omega), Int.mul_comm, KP]; exact hl.2
    have hp1 : (hi + 1) * P ≤ y * P := Int.mul_le_mul_of_nonneg_right (by omega) (by omega)
    rw [Int.add_mul, Int.one_mul] at hp1
    have hp0 : 0 ≤ hi * P := Int.mul_nonneg hh.1 (by omega)
    have lm0 := Int.emod_nonneg (lo * P) (show (18446744073709551616 : Int) ≠ 0 by decide)
    have lm1 := Int.emod_lt_of_pos (lo * P) (show (0 : Int) < 18446744073709551616 by decide)
    have ld := Int.mul_ediv_add_emod (lo * P) 18446744073709551616
    have W' := W (by rw [IntKind.wrap_u64]; omega) (by
        rw [IntKind.wrap_u64, Int.emod_eq_of_lt hp0 (by omega), ← hPe]
        exact or_join k hi _ hh.1 (by rw [hPe]; exact ⟨lb0, lb1⟩) (by rw [hPe]; omega)) (by rw [IntKind.wrap_u64]) rfl (and_low32 _ (by omega) (by omega)) rfl (and_low32 _ lm0 lm1) (by omega)
      ⟨by omega, by omega, by omega, by omega⟩ (by omega) LZ
    refine W'.mono ?_
    rintro e w' ⟨rfl, rfl⟩
    refine ⟨?_, 0, rfl⟩
    have yP : 0 < y * P := by omega
    obtain ⟨a, b⟩ := quo_raised (hi * 18446744073709551616 + lo) y P (y * P) _ _ _ _ (hi * P + lo / K) (lo * P % 18446744073709551616 / 4294967296) (lo * P % 18446744073709551616 % 4294967296) hP (by omega) rfl (by
        rw [Int.add_mul (hi * 18446744073709551616), Int.mul_right_comm, lq]
        generalize hi * P = A at *
        generalize lo * P = B at *
        omega) (by rw [Int.mul_comm]; exact Int.mul_ediv_add_emod _ _) (by rw [Int.mul_comm]; exact Int.mul_ediv_add_emod _ _) ⟨Int.emod_nonneg _ (by omega), Int.emod_lt_of_pos _ yP⟩
    rw [a, b]
end Go.Proofs.Ytlfldbagbafjfaa
