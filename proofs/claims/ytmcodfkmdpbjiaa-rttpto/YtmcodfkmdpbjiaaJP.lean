/- PTO, the code's and the document's. -/
import Derived.Test.YtmcodfkmdpbjiaaJH
import Derived.LoopIn
namespace Go.Proofs.Ytmcodfkmdpbjiaa
open Go.RowKit
set_option linter.unusedVariables false
set_option maxRecDepth 100000
set_option maxHeartbeats 4000000

abbrev nn (x : Int) : Prop := 0 ≤ x ∧ x ≤ 9223372036854775807
abbrev rawB (x : Int) : Prop := -9223372036854775808 ≤ x ∧ x ≤ 9223372036854775807
/-- Doubled as often as c says, or till it is m. -/
def ptoF (n c m : Int) : Int := min (n * 2 ^ min c.toNat 64) m
def ptoA (b x c m : Int) : Int := ptoF (max b 0 + max x 0) (max c 0) (max m 0)

theorem two_pos (k : Nat) : (1 : Int) ≤ 2 ^ k := by
  have : (0 : Int) < 2 ^ k := Int.pow_pos (by decide)
  omega
theorem pto_gt {n P m : Int} (hP : 1 ≤ P) (h : m / P < n) : min (n * P) m = m := by
  have : m < n * P := (Int.ediv_lt_iff_lt_mul (by omega)).1 h
  omega
theorem pto_le {n P m : Int} (hP : 1 ≤ P) (h : n ≤ m / P) : n * P ≤ m := Int.mul_le_of_le_ediv (by omega) h
theorem pto_n {n P m : Int} (hP : 1 ≤ P) (hn : 0 ≤ n) (h : n ≤ m / P) : n ≤ m := by
  have h1 := pto_le hP h
  have h2 : n * 1 ≤ n * P := Int.mul_le_mul_of_nonneg_left hP hn
  omega

theorem pto_any (b x c m : Int) (hb : rawB b) (hx : rawB x) (hc : rawB c) (hm : rawB m) (w : World) : Calls Try.prog 17 #[.int .i64 b, .int .i64 x, .int .i64 c, .int .i64 m] w fun e w' => e = .returned (.int .i64 (ptoA b x c m)) ∧ w' = w := by
  obtain ⟨b1, b2⟩ := hb
  obtain ⟨x1, x2⟩ := hx
  obtain ⟨c1, c2⟩ := hc
  obtain ⟨m1, m2⟩ := hm
  have E : Hid (ptoA b x c m = min ((max b 0 + max x 0) * 2 ^ min (max c 0).toNat 64) (max m 0)) := rfl
  obtain ⟨B, hB⟩ : ∃ B, B = max b 0 := ⟨_, rfl⟩
  obtain ⟨X, hX⟩ : ∃ X, X = max x 0 := ⟨_, rfl⟩
  obtain ⟨C, hC⟩ : ∃ C, C = max c 0 := ⟨_, rfl⟩
  obtain ⟨M, hM⟩ : ∃ M, M = max m 0 := ⟨_, rfl⟩
  rw [← hB, ← hX, ← hC, ← hM] at E
  have hP := two_pos (min C.toNat 64)
  have FA : Hid (M / 2 ^ min C.toNat 64 < B + X → ptoA b x c m = M) := fun h => by rw [unhide E]; exact pto_gt hP h
  have FB : Hid (B + X ≤ M / 2 ^ min C.toNat 64 → ptoA b x c m = wrap64 (wrap64 (B + X) * 2 ^ min C.toNat 64) ∧ ptoA b x c m = (B + X) * 2 ^ min C.toNat 64 ∧ ptoA b x c m = wrap64 ((B + X) * 2 ^ min C.toNat 64)) := fun h => by
    have h1 := pto_le hP h
    have h2 := pto_n hP (by omega) h
    have h3 : 0 ≤ (B + X) * 2 ^ min C.toNat 64 := Int.mul_nonneg (by omega) (by omega)
    have h4 : wrap64 (B + X) = B + X := IntWalk.wrap64_in _ (by omega)
    rw [h4, IntWalk.wrap64_in _ (by omega), unhide E]
    omega
  clear hP E
  have kB : (b < 0 ∧ B = 0) ∨ (0 ≤ b ∧ B = b) := by omega
  have kX : (x < 0 ∧ X = 0) ∨ (0 ≤ x ∧ X = x) := by omega
  have kC : (c < 0 ∧ C = 0) ∨ (0 ≤ c ∧ C = c) := by omega
  have kM : (m < 0 ∧ M = 0) ∨ (0 ≤ m ∧ M = m) := by omega
  clear hB hX hC hM
  generalize ptoA b x c m = R at *
  rcases kB with ⟨sb, rfl⟩ | ⟨sb, rfl⟩ <;> rcases kX with ⟨sx, rfl⟩ | ⟨sx, rfl⟩ <;> rcases kM with ⟨sm, rfl⟩ | ⟨sm, rfl⟩ <;> rcases kC with ⟨sc, rfl⟩ | ⟨sc, rfl⟩
  all_goals
    replace FA := unhide FA
    replace FB := unhide FB
    try simp only [Int.zero_add, Int.add_zero, Int.toNat_zero, Nat.zero_min, Int.pow_zero, Int.ediv_one, Int.mul_one, Int.zero_ediv, Int.zero_mul] at FA FB
    have FA' := hide FA
    have FB' := hide FB
    clear FA FB
    go_enter Try.func17, Try.ntmps17
    go_wp2
  all_goals go_ret
  all_goals
    first
    | exact ⟨ret_eq (unhide FA' (by omega)), rfl⟩
    | exact ⟨ret_eq (unhide FB' (by omega)).1, rfl⟩
    | exact ⟨ret_eq (unhide FB' (by omega)).2.1, rfl⟩
    | exact ⟨ret_eq (unhide FB' (by omega)).2.2, rfl⟩
    | exact ⟨ret_eq (unhide FA' (by simpa using by assumption)), rfl⟩
    | exact ⟨ret_eq (unhide FB' (by simpa using by assumption)).1, rfl⟩
    | exact ⟨ret_eq (unhide FB' (by simpa using by assumption)).2.1, rfl⟩

theorem pow_up (k : Nat) : ∀ d : Nat, (2 : Int) ^ k ≤ 2 ^ (k + d)
  | 0 => Int.le_refl _
  | d + 1 => by
    have h := pow_up k d
    have h2 := two_pos (k + d)
    have e : (2 : Int) ^ (k + (d + 1)) = 2 ^ (k + d) * 2 := Int.pow_succ 2 (k + d)
    rw [e]
    omega
theorem pow_le {k K : Nat} (h : k ≤ K) : (2 : Int) ^ k ≤ 2 ^ K := by
  obtain ⟨d, rfl⟩ := Nat.exists_eq_add_of_le h
  exact pow_up k d

theorem rpto_any (b x c m : Int) (hb : rawB b) (hx : rawB x) (hc : rawB c) (hm : rawB m) (w : World) : Calls Try.prog 18 #[.int .i64 b, .int .i64 x, .int .i64 c, .int .i64 m] w fun e w' => e = .returned (.int .i64 (ptoA b x c m)) ∧ w' = w := by
  obtain ⟨b1, b2⟩ := hb
  obtain ⟨x1, x2⟩ := hx
  obtain ⟨c1, c2⟩ := hc
  obtain ⟨m1, m2⟩ := hm
  have E : Hid (ptoA b x c m = min ((max b 0 + max x 0) * 2 ^ min (max c 0).toNat 64) (max m 0)) := rfl
  obtain ⟨B, hB⟩ : ∃ B, B = max b 0 := ⟨_, rfl⟩
  obtain ⟨X, hX⟩ : ∃ X, X = max x 0 := ⟨_, rfl⟩
  obtain ⟨C, hC⟩ : ∃ C, C = max c 0 := ⟨_, rfl⟩
  obtain ⟨M, hM⟩ : ∃ M, M = max m 0 := ⟨_, rfl⟩
  rw [← hB, ← hX, ← hC, ← hM] at E
  generalize ptoA b x c m = R at *
  obtain ⟨N, hN⟩ : ∃ N, N = B + X := ⟨_, rfl⟩
  rw [← hN] at E
  have FA : Hid (∀ k : Nat, k ≤ 64 → (k : Int) ≤ C → M ≤ N * 2 ^ k → R = M) := fun k k1 k2 h => by
    rw [unhide E]
    have h1 : (2 : Int) ^ k ≤ 2 ^ min C.toNat 64 := pow_le (by omega)
    have h2 : N * 2 ^ k ≤ N * 2 ^ min C.toNat 64 := Int.mul_le_mul_of_nonneg_left h1 (by omega)
    omega
  have FB : Hid (∀ k : Nat, k ≤ 64 → (k : Int) ≤ C → ¬ ((k : Int) < C ∧ k < 64) → R = min (N * 2 ^ k) M) := fun k k1 k2 h => by
    rw [unhide E]
    have : min C.toNat 64 = k := by omega
    rw [this]
  clear E
  have n0 : 0 ≤ N ∧ N ≤ 18446744073709551614 := by omega
  have m0 : 0 ≤ M ∧ M ≤ 9223372036854775807 := by omega
  obtain ⟨n1, n2⟩ := n0
  obtain ⟨m01, m02⟩ := m0
  have kB : (b ≤ 0 ∧ B = 0) ∨ (0 < b ∧ B = b) := by omega
  have kX : (x ≤ 0 ∧ X = 0) ∨ (0 < x ∧ X = x) := by omega
  have kM : (m ≤ 0 ∧ M = 0) ∨ (0 < m ∧ M = m) := by omega
  clear hB hX hM
  rcases kB with ⟨sb, rfl⟩ | ⟨sb, rfl⟩ <;> rcases kX with ⟨sx, rfl⟩ | ⟨sx, rfl⟩ <;> rcases kM with ⟨sm, hM⟩ | ⟨sm, hM⟩
  all_goals as_aux_lemma =>
    go_enter Try.func18, Try.ntmps18
    go_wp2_with fail
    go_loopw [12, 13] (fun n i wr => ∃ (k : Nat) (t : Int), i = .int .i64 k ∧ n = .int .u64 t ∧ Hid (wr = w ∧ k ≤ 64 ∧ (k : Int) ≤ C ∧ t = N * 2 ^ k ∧ 0 ≤ t ∧ t ≤ 18446744073709551615)) (fun _ i _ => 64 - (intOf i).toNat)
    case atStart => exact ⟨0, N, rfl, by first | rfl | (simp [hN]), ⟨rfl, by omega, by omega, by simp, by omega, by omega⟩⟩
    case round =>
      obtain ⟨k, t, rfl, rfl, H⟩ := hrel
      have t1 := (unhide H).2.2.2.2.1
      have t2 := (unhide H).2.2.2.2.2
      have HW := hide (unhide H).1
      by_cases hlt : (k : Int) < c ∧ k < 64
      · obtain ⟨hl1, hl2⟩ := hlt
        have hl3 : (k : Int) < 64 := by omega
        have HK : Hid ((k : Int) < 64) := hl3
        by_cases hge : M ≤ t
        · have RR : Hid (R = M) := by
            obtain ⟨-, k1, k2, k3, -, -⟩ := unhide H
            exact unhide FA k k1 k2 (by rw [← k3]; exact hge)
          clear FA FB H
          go_wp2_with fail
          all_goals go_ret
          all_goals exact ⟨by rw [unhide RR, hM]; rfl, unhide HW⟩
        · have t3 : t < M := by omega
          have H1 : Hid (wr = w ∧ k + 1 ≤ 64 ∧ ((k + 1 : Nat) : Int) ≤ C ∧ t + t = N * 2 ^ (k + 1) ∧ 0 ≤ t + t ∧ t + t ≤ 18446744073709551615) := by
            obtain ⟨-, k1, k2, k3, -, -⟩ := unhide H
            refine ⟨unhide HW, by omega, by omega, ?_, by omega, by omega⟩
            rw [Int.pow_succ, ← Int.mul_assoc, ← k3]
            omega
          clear FA FB H
          first
          | (exfalso; omega)
          | (go_wp2_with fail
             go_roundw
             case rel => exact ⟨k + 1, t + t, by go_num, rfl, H1⟩
             case measure => have := unhide HK; simp [intOf]; omega)
      · have RR : Hid (R = min t M) := by
          obtain ⟨-, k1, k2, k3, -, -⟩ := unhide H
          rw [k3]
          exact unhide FB k k1 k2 (by omega)
        have alt : (¬ (k : Int) < c) ∨ ((k : Int) < c ∧ ¬ (k : Int) < 64) := by omega
        clear FA FB H
        rcases alt with e1 | ⟨e1, e2⟩
        all_goals
          go_wp2_with fail
        all_goals go_ret
        all_goals exact ⟨by rw [unhide RR]; exact congrArg (fun z => Ending.returned (.int .i64 z)) (by omega), unhide HW⟩
end Go.Proofs.Ytmcodfkmdpbjiaa
