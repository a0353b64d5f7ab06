/- RttPTO. -/
import Derived.Test.YtmcodfkmdpbjiaaJP
namespace Go.Proofs.Ytmcodfkmdpbjiaa
open Go.RowKit
set_option linter.unusedVariables false
set_option maxRecDepth 100000
set_option maxHeartbeats 4000000

theorem pto_b (b x c m : Int) (hb : rawB b) (hx : rawB x) (hm : rawB m) : 0 ≤ ptoA b x c m ∧ ptoA b x c m ≤ max 0 m := by
  unfold ptoA ptoF
  have hP := two_pos (min (max c 0).toNat 64)
  have h3 : 0 ≤ (max b 0 + max x 0) * 2 ^ min (max c 0).toNat 64 := Int.mul_nonneg (by omega) (by omega)
  omega
theorem pto_twice (b x c m : Int) (hb : rawB b) (hx : rawB x) (hc : 0 ≤ c ∧ c < 1000) (hm : rawB m) : ptoA b x (c + 1) m = if ptoA b x c m ≤ max 0 m / 2 then ptoA b x c m + ptoA b x c m else max 0 m := by
  unfold ptoA ptoF
  have e0 : max m 0 = max 0 m := by omega
  rw [e0]
  generalize hM : max 0 m = M
  have hM0 : 0 ≤ M ∧ M ≤ 9223372036854775807 := by omega
  generalize hS : max b 0 + max x 0 = S
  have hS0 : 0 ≤ S := by omega
  by_cases h64 : c < 64
  · have e1 : min (max c 0).toNat 64 = c.toNat := by omega
    have e2 : min (max (c + 1) 0).toNat 64 = c.toNat + 1 := by omega
    rw [e1, e2, Int.pow_succ, ← Int.mul_assoc]
    have h3 : 0 ≤ S * 2 ^ c.toNat := Int.mul_nonneg hS0 (by have := two_pos c.toNat; omega)
    generalize S * 2 ^ c.toNat = Q at *
    split <;> omega
  · have e1 : min (max c 0).toNat 64 = 64 := by omega
    have e2 : min (max (c + 1) 0).toNat 64 = 64 := by omega
    rw [e1, e2]
    have e3 : (2 : Int) ^ 64 = 18446744073709551616 := by decide
    rw [e3]
    split <;> omega

theorem pto_walk (b x : Int) (c m : Int) (w : World) (hb : rawB b) (hx : rawB x) (hc : rawB c) (hm : rawB m) :
    Calls Try.prog 4 #[.int .i64 b, .int .i64 x, .agg #[.int .i64 c, .int .i64 m]] w fun e w' => e = .returned (.bool true) ∧ w.grownBy w' none := by
  have ga := World.grownBy_alloc w (.cells #[.int .i64 c, .int .i64 m] 42) none
  have bn := Blk.new w #[.int .i64 c, .int .i64 m] 42
  have sh := shown_any (w.alloc (.cells #[.int .i64 c, .int .i64 m] 42))
  have p1 := fun W => pto_any b x c m hb hx hc hm W
  have p2 := fun W => rpto_any b x c m hb hx hc hm W
  have pb := pto_b b x c m hb hx hm
  have PT : Hid (0 ≤ c ∧ c < 1000 → (∀ W, Calls Try.prog 17 #[.int .i64 b, .int .i64 x, .int .i64 (c + 1), .int .i64 m] W fun e w' => e = .returned (.int .i64 (ptoA b x (c + 1) m)) ∧ w' = W) ∧ ptoA b x (c + 1) m = if ptoA b x c m ≤ max 0 m / 2 then ptoA b x c m + ptoA b x c m else max 0 m) := fun h => ⟨fun W => pto_any b x (c + 1) m hb hx ⟨by omega, by omega⟩ hm W, pto_twice b x c m hb hx h hm⟩
  obtain ⟨b1, b2⟩ := hb
  obtain ⟨x1, x2⟩ := hx
  obtain ⟨c1, c2⟩ := hc
  obtain ⟨m1, m2⟩ := hm
  obtain ⟨pb1, pb2⟩ := pb
  generalize ptoA b x c m = n at *
  generalize ptoA b x (c + 1) m = n' at *
  go_enter Try.func4, Try.ntmps4
  go_wp2_with fail
  refine sh.mono ?_
  rintro e w1 ⟨rfl, g1⟩
  have bn1 := bn.grown g1
  have d0 := bn1.cell 0 (.int .i64 c) rfl
  have d1 := bn1.cell 1 (.int .i64 m) rfl
  have g2 := hide (g1.trans (World.grownBy.refl w1 none))
  have G := hide (ga.trans g1)
  clear sh bn bn1 g1 ga g2
  go_wp2_with fail
  refine (p1 _).mono ?_
  rintro e W2 ⟨rfl, hW2⟩
  replace hW2 := hW2.symm
  subst hW2
  clear p1
  go_wp2_with fail
  refine (p2 _).mono ?_
  rintro e W2 ⟨rfl, hW2⟩
  replace hW2 := hW2.symm
  subst hW2
  clear p2
  have nb : ¬ n < 0 := by omega
  by_cases hk : 0 ≤ c ∧ c < 1000
  · obtain ⟨p3, p4⟩ := unhide PT hk
    obtain ⟨hk1, hk2⟩ := hk
    clear PT
    by_cases hz : 0 < m
    · have hmx : max 0 m = m := by omega
      rw [hmx] at p4 pb2
      by_cases hh : n ≤ m / 2
      · rw [if_pos hh] at p4
        go_wp2_with fail
        refine (p3 _).mono ?_
        rintro e W2 ⟨rfl, hW2⟩
        replace hW2 := hW2.symm
        subst hW2
        clear p3
        subst p4
        go_wp2_with fail
        go_ret
        exact ⟨rfl, unhide G⟩
      · rw [if_neg hh] at p4
        go_wp2_with fail
        refine (p3 _).mono ?_
        rintro e W2 ⟨rfl, hW2⟩
        replace hW2 := hW2.symm
        subst hW2
        clear p3
        subst p4
        go_wp2_with fail
        go_ret
        exact ⟨rfl, unhide G⟩
    · have hmx : max 0 m = 0 := by omega
      rw [hmx] at p4 pb2
      obtain rfl : n = 0 := by omega
      have p5 : n' = 0 := by rw [p4]; decide
      subst p5
      clear p4
      go_wp2_with fail
      refine (p3 _).mono ?_
      rintro e W2 ⟨rfl, hW2⟩
      replace hW2 := hW2.symm
      subst hW2
      clear p3
      go_wp2_with fail
      go_ret
      exact ⟨rfl, unhide G⟩
  · clear PT
    have alt : c < 0 ∨ (0 ≤ c ∧ ¬ c < 1000) := by omega
    have mlt : (0 < m ∧ n ≤ m) ∨ (¬ 0 < m ∧ n = 0) := by omega
    rcases alt with e1 | ⟨e1, e2⟩ <;> rcases mlt with ⟨f1, f2⟩ | ⟨f1, f2⟩
    all_goals
      go_wp2_with fail
      go_ret
      exact ⟨rfl, unhide G⟩
end Go.Proofs.Ytmcodfkmdpbjiaa
