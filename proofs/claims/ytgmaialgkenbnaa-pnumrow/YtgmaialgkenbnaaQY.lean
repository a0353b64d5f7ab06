/- Layer 3: PnumBack. -/
import Derived.Test.YtgmaialgkenbnaaQW
namespace Go.Proofs.Ytgmaialgkenbnaa
open Go.RowKit
set_option linter.unusedVariables false
set_option maxRecDepth 100000

/-- What Width tells when it tells a width. -/
theorem width_ok (n a q1 : Int) (h : (q1, 0) = widthF n a) : 1 ≤ q1 ∧ q1 ≤ 4 ∧ -1 ≤ a ∧ a < n ∧ n ≤ 4611686018427387903 ∧ 2 * (n - a) ≤ st q1 := by
  unfold widthF at h
  split at h
  · simp at h
  · split at h
    · simp only [Prod.mk.injEq, and_true] at h; subst h; exact ⟨by omega, by omega, by omega, by omega, by omega, by rw [show st 1 = 256 from rfl]; omega⟩
    · split at h
      · simp only [Prod.mk.injEq, and_true] at h; subst h; exact ⟨by omega, by omega, by omega, by omega, by omega, by rw [show st 2 = 65536 from rfl]; omega⟩
      · split at h
        · simp only [Prod.mk.injEq, and_true] at h; subst h; exact ⟨by omega, by omega, by omega, by omega, by omega, by rw [show st 3 = 16777216 from rfl]; omega⟩
        · split at h
          · simp only [Prod.mk.injEq, and_true] at h; subst h; exact ⟨by omega, by omega, by omega, by omega, by omega, by rw [show st 4 = 4294967296 from rfl]; omega⟩
          · simp at h

theorem st_mono (a b : Int) (h1 : 1 ≤ a) (h2 : a ≤ b) (h3 : b ≤ 4) : st a ≤ st b := by
  unfold st; (repeat' split) <;> omega

theorem lst_st (a : Int) (h1 : 1 ≤ a) (h3 : a ≤ 4) : lst a = st a := by
  unfold lst st; (repeat' split) <;> omega

theorem low_lt (n a : Int) : 0 ≤ n % st a ∧ n % st a < st a := by
  rcases st_cases a with e | e | e | e <;> rw [e] <;> omega

set_option maxHeartbeats 1600000 in
theorem back_walk (n a l m : Int) (w : World) (hn : -9223372036854775808 ≤ n ∧ n ≤ 9223372036854775807) (ha : -9223372036854775808 ≤ a ∧ a ≤ 9223372036854775807) (hl : -9223372036854775808 ≤ l ∧ l ≤ 9223372036854775807) (hm : -9223372036854775808 ≤ m ∧ m ≤ 9223372036854775807) :
    Calls Try.prog 7 #[.int .i64 n, .int .i64 a, .int .i64 l, .int .i64 m] w fun e w' => e = .returned (.bool true) ∧ Below w.heap.size w w' := by
  obtain ⟨q1, q2, hq⟩ : ∃ q1 q2, (q1, q2) = widthF n a := ⟨_, _, rfl⟩
  have c1 := fun W => width_any n a W (q1, q2) hq
  simp only at c1
  by_cases h0 : q2 = 0
  · subst h0
    obtain ⟨w1, w2, a1, a2, a3, a4⟩ := width_ok n a q1 hq
    clear hq
    obtain ⟨v, hv, v1, v2, v3⟩ : ∃ v, ((0 < m ∧ m ≤ 4 - q1 ∧ v = q1 + m) ∨ ((m ≤ 0 ∨ 4 - q1 < m) ∧ v = q1)) ∧ q1 ≤ v ∧ v ≤ 4 ∧ 1 ≤ v := by
      by_cases k : 0 < m ∧ m ≤ 4 - q1
      · exact ⟨q1 + m, .inl ⟨k.1, k.2, rfl⟩, by omega, by omega, by omega⟩
      · exact ⟨q1, .inr ⟨by omega, rfl⟩, by omega, by omega, by omega⟩
    have c2 := fun W => cut_good n v W (by omega) (by omega) ⟨v3, v2⟩
    have c3 := fun W => lawStretch_any v W
    rw [lst_st v v3 v2] at c3
    have hs := st_mono q1 v w1 v1 v2
    have hlow := low_lt n v
    have hp := st_pos v
    have hH : 2 * (st v / 2) = st v := by rcases st_cases v with e | e | e | e <;> rw [e] <;> omega
    have hst : 2 * (n - a) ≤ st v := by omega
    clear hs a4 v1
    by_cases hL : l < -1 ∨ 4611686018427387903 < l
    · generalize n % st v = low at *
      generalize st v = s at *
      clear hst hH hlow
      rcases hv with ⟨k1, k2, rfl⟩ | ⟨k1, rfl⟩
      all_goals
        go_enter Try.func7, Try.ntmps7
        go_wp2_with (first | (go_at_call 9; refine (awake_any _).mono ?_; rintro e w1 ⟨rfl, bel⟩) | (go_at_call 10; refine (c1 _).mono ?_; rintro e w' ⟨rfl, hw'⟩; subst w') | (go_at_call 13; refine (c2 _).mono ?_; rintro e w' ⟨rfl, hw'⟩; subst w') | (go_at_call 17; refine (c3 _).mono ?_; rintro e w' ⟨rfl, hw'⟩; subst w'))
        all_goals go_ret
        all_goals exact ⟨rfl, bel⟩
    · have L1 : -1 ≤ l := by omega
      have L2 : l ≤ 4611686018427387903 := by omega
      by_cases hN : l + 1 - st v / 2 < n ∧ n ≤ l + 1 + st v / 2
      · have c4 := fun W => whole_good l (n % st v) v W L1 L2 ⟨v3, v2⟩ hlow n (whole_back n l v L1 L2 (by omega) (by omega) (by omega)).symm
        obtain ⟨n1, n2⟩ := hN
        generalize n % st v = low at *
        generalize st v = s at *
        clear hlow
        have hnn : decide (n = n) = true := decide_eq_true rfl
        rcases hv with ⟨k1, k2, rfl⟩ | ⟨k1, rfl⟩
        all_goals
          go_enter Try.func7, Try.ntmps7
          go_wp2_with (first | (go_at_call 9; refine (awake_any _).mono ?_; rintro e w1 ⟨rfl, bel⟩) | (go_at_call 10; refine (c1 _).mono ?_; rintro e w' ⟨rfl, hw'⟩; subst w') | (go_at_call 13; refine (c2 _).mono ?_; rintro e w' ⟨rfl, hw'⟩; subst w') | (go_at_call 17; refine (c3 _).mono ?_; rintro e w' ⟨rfl, hw'⟩; subst w') | (go_at_call 15; refine (c4 _).mono ?_; rintro e w2 ⟨rfl, bel2⟩))
          all_goals go_ret
          all_goals exact ⟨rfl, bel.trans (bel2.mono bel.size)⟩
      · have c4 := fun W => whole_good l (n % st v) v W L1 L2 ⟨v3, v2⟩ hlow _ rfl
        generalize wholeV l (n % st v) v = V at *
        generalize n % st v = low at *
        generalize st v = s at *
        clear hlow
        have hX : (n ≤ l + 1 - s / 2 ∨ (l + 1 - s / 2 < n ∧ l + 1 + s / 2 < n)) ∧ (l < a ∨ (a ≤ l ∧ n ≤ l)) := by omega
        clear hst hN
        obtain ⟨hN, hS⟩ := hX
        rcases hv with ⟨k1, k2, rfl⟩ | ⟨k1, rfl⟩
        all_goals
          go_enter Try.func7, Try.ntmps7
          go_wp2_with (first | (go_at_call 9; refine (awake_any _).mono ?_; rintro e w1 ⟨rfl, bel⟩) | (go_at_call 10; refine (c1 _).mono ?_; rintro e w' ⟨rfl, hw'⟩; subst w') | (go_at_call 13; refine (c2 _).mono ?_; rintro e w' ⟨rfl, hw'⟩; subst w') | (go_at_call 17; refine (c3 _).mono ?_; rintro e w' ⟨rfl, hw'⟩; subst w') | (go_at_call 15; refine (c4 _).mono ?_; rintro e w2 ⟨rfl, bel2⟩))
          all_goals go_ret
          all_goals exact ⟨rfl, bel.trans (bel2.mono bel.size)⟩
  · clear hq hm hl
    go_enter Try.func7, Try.ntmps7
    go_wp2_with (first | (go_at_call 9; refine (awake_any _).mono ?_; rintro e w1 ⟨rfl, bel⟩) | (go_at_call 10; refine (c1 _).mono ?_; rintro e w' ⟨rfl, hw'⟩; subst w'))
    all_goals go_ret
    all_goals exact ⟨rfl, bel⟩
end Go.Proofs.Ytgmaialgkenbnaa
