/- The program's functions: fill, Left, Set, When, Spend. -/
import Derived.Test.YtlfldbagbafjfaaUB
namespace Go.Proofs.Ytlfldbagbafjfaa
open Go.RowKit
set_option linter.unusedVariables false
set_option maxRecDepth 100000
set_option maxHeartbeats 2000000

theorem drewSN {w W : World} {b : Nat} (g : w.grownBy W (some b)) (q : Nat) : w.grownBy (W.drewN q) (some b) := ⟨g.os, g.tape, g.output, g.size, g.block⟩

/-- Three cells are set. -/
theorem PB.set3 {w : World} {b : Nat} {s : Ps} (h : PB w b s) (q q2 : Nat) (t l r : Int) :
    PB (((((w.drewN q).setCell ⟨b, 1, none⟩ (.int .i64 t)).drewN q2).setCell ⟨b, 2, none⟩ (.int .i64 l)).setCell ⟨b, 3, none⟩ (.int .i64 r)) b { s with clock := t, left := l, rest := r } ∧
    w.grownBy (((((w.drewN q).setCell ⟨b, 1, none⟩ (.int .i64 t)).drewN q2).setCell ⟨b, 2, none⟩ (.int .i64 l)).setCell ⟨b, 3, none⟩ (.int .i64 r)) (some b) := by
  have h1 := Blk.setC (w := w.drewN q) h 1 (.int .i64 t)
  refine ⟨Blk.setC (Blk.setC (w := ((w.drewN q).setCell ⟨b, 1, none⟩ (.int .i64 t)).drewN q2) h1 2 (.int .i64 l)) 3 (.int .i64 r), ?_⟩
  exact grown_at (grown_at (drewSN (grown_at (drewSN (World.grownBy.refl w (some b)) q) 1 _) q2) 2 _) 3 _

theorem fill_any (b : Nat) (s : Ps) (x : Int) (w : World) (h : PB w b s) (ok : s.Ok) : Calls Try.prog 22 #[ptr b, .int .i64 x] w fun e w' => e = .returned (.tuple #[]) ∧ PB w' b (fillF x s) ∧ w.grownBy w' (some b) := by
  have hw := within_any x s.clock 1125899906842624 w
  have ht := tm_b ok x
  have hi := inflow_any b s (tmF x s - s.clock) w h ok (by have := ok.c; omega)
  have hpb := parts_b ok x
  obtain ⟨t, c0, c1, c2, c3, c4, c5⟩ := h.full
  obtain ⟨b1, b2⟩ := ok.b
  obtain ⟨l1, l2⟩ := ok.l
  obtain ⟨k1, k2⟩ := ok.c
  obtain ⟨p1, p2⟩ := ok.p
  obtain ⟨r1, r2⟩ := ok.r
  have F := hide (fun (q q2 : Nat) (l r : Int) => PB.set3 h q q2 (tmF x s) l r)
  -- what flows in, against the room
  have Q0 : 0 ≤ parts x s / s.span := Int.ediv_nonneg (by omega) (by omega)
  have K : (s.burst - s.left ≤ (inflF (tmF x s - s.clock) s).1 ∧ fillF x s = { s with clock := tmF x s, left := s.burst, rest := 0 }) ∨
      (¬ s.burst - s.left ≤ (inflF (tmF x s - s.clock) s).1 ∧ fillF x s = { s with clock := tmF x s, left := s.left + (inflF (tmF x s - s.clock) s).1, rest := (inflF (tmF x s - s.clock) s).2 } ∧ 0 ≤ (inflF (tmF x s - s.clock) s).1 ∧ 0 ≤ (inflF (tmF x s - s.clock) s).2 ∧ (inflF (tmF x s - s.clock) s).2 < s.span) := by
    show (s.burst - s.left ≤ (inflF (tmF x s - s.clock) s).1 ∧ (if s.burst - s.left ≤ parts x s / s.span then _ else _) = _) ∨ (¬ s.burst - s.left ≤ (inflF (tmF x s - s.clock) s).1 ∧ (if s.burst - s.left ≤ parts x s / s.span then _ else _) = _ ∧ _)
    by_cases c : s.span ≤ parts x s / 18446744073709551616
    · have e : inflF (tmF x s - s.clock) s = (18446744073709551615, 0) := if_pos c
      rw [e]
      have big : s.burst - s.left ≤ parts x s / s.span := by
        rw [Int.le_ediv_iff_mul_le (by omega)]
        have : (s.burst - s.left) * s.span ≤ 2097152 * s.span := Int.mul_le_mul_of_nonneg_right (by omega) (by omega)
        omega
      exact .inl ⟨by show s.burst - s.left ≤ 18446744073709551615; omega, if_pos big⟩
    · have e : inflF (tmF x s - s.clock) s = (parts x s / s.span, parts x s % s.span) := if_neg c
      rw [e]
      by_cases c2 : s.burst - s.left ≤ parts x s / s.span
      · exact .inl ⟨c2, if_pos c2⟩
      · exact .inr ⟨c2, if_neg c2, Q0, Int.emod_nonneg _ (by omega), Int.emod_lt_of_pos _ (by omega)⟩
  have wb : IntKind.u64.wrap (s.burst - s.left) = s.burst - s.left := by rw [IntKind.wrap_u64]; omega
  have wi : IntKind.i64.wrap (s.burst - s.left) = s.burst - s.left := by rw [IntKind.wrap_i64]; omega
  have wk : IntKind.i64.wrap (tmF x s - s.clock) = tmF x s - s.clock := by rw [IntKind.wrap_i64]; omega
  have eT : win x s.clock 1125899906842624 = tmF x s := rfl
  rw [eT] at hw
  generalize inflF (tmF x s - s.clock) s = I at *
  obtain ⟨ia, ib⟩ := I
  simp only at K hi
  obtain ⟨t1, t2⟩ := ht
  clear h ok hpb Q0 eT
  generalize tmF x s = T at *
  rcases K with ⟨ka, kb⟩ | ⟨ka, kb, k3, k4, k5⟩
  · rw [kb]
    have wl : IntKind.i64.wrap (s.left + (s.burst - s.left)) = s.burst := by rw [IntKind.wrap_i64]; omega
    go_enter Try.func22, Try.ntmps22
    go_wp2_with fail
    refine hw.mono ?_
    rintro e W ⟨rfl, hW⟩
    replace hW := hW.symm
    subst hW
    go_wp2_with fail
    refine hi.mono ?_
    rintro e W2 ⟨rfl, q, rfl⟩
    go_wp2_with fail
    go_quiet (fail)
    all_goals go_wp2_with fail
    all_goals refine bodyPost_end (results_none rfl _ _ _) rfl ?_
    all_goals exact ⟨rfl, unhide F _ _ _ _⟩
  · rw [kb]
    have k6 : IntKind.i64.wrap ia = ia := by rw [IntKind.wrap_i64]; omega
    have k7 : IntKind.i64.wrap ib = ib := by rw [IntKind.wrap_i64]; omega
    have wl : IntKind.i64.wrap (s.left + ia) = s.left + ia := by rw [IntKind.wrap_i64]; omega
    go_enter Try.func22, Try.ntmps22
    go_wp2_with fail
    refine hw.mono ?_
    rintro e W ⟨rfl, hW⟩
    replace hW := hW.symm
    subst hW
    go_wp2_with fail
    refine hi.mono ?_
    rintro e W2 ⟨rfl, q, rfl⟩
    go_wp2_with fail
    go_quiet (fail)
    all_goals go_wp2_with fail
    all_goals refine bodyPost_end (results_none rfl _ _ _) rfl ?_
    all_goals exact ⟨rfl, unhide F _ _ _ _⟩
end Go.Proofs.Ytlfldbagbafjfaa
