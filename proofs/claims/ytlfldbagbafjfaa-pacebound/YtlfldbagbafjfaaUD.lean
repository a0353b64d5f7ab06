/- The program's functions: Left, Set, When, Spend, New. -/
import Derived.Test.YtlfldbagbafjfaaUC
namespace Go.Proofs.Ytlfldbagbafjfaa
open Go.RowKit
set_option linter.unusedVariables false
set_option maxRecDepth 100000
set_option maxHeartbeats 2000000

theorem left_any (b : Nat) (s : Ps) (x : Int) (w : World) (h : PB w b s) (ok : s.Ok) : Calls Try.prog 19 #[ptr b, .int .i64 x] w fun e w' => e = .returned (.int .i64 (fillF x s).left) ∧ PB w' b (fillF x s) ∧ w.grownBy w' (some b) := by
  have hf := fill_any b s x w h ok
  clear h ok
  go_enter Try.func19, Try.ntmps19
  go_wp2_with fail
  refine hf.mono ?_
  rintro e W ⟨rfl, h1, g1⟩
  obtain ⟨t, -, -, c2, -⟩ := h1.full
  have F := hide (And.intro h1 g1)
  clear h1 g1
  go_wp2_with fail
  go_ret
  exact ⟨rfl, unhide F⟩

theorem set_any (b : Nat) (s : Ps) (x y z : Int) (w : World) (h : PB w b s) (ok : s.Ok) : Calls Try.prog 13 #[ptr b, .int .i64 x, .int .i64 y, .int .i64 z] w fun e w' => e = .returned (.tuple #[]) ∧ PB w' b (setF x y z s) ∧ w.grownBy w' (some b) := by
  have hf := fill_any b s x w h ok
  have w1 := within_any y 0 1099511627776
  have w2 := within_any z 1 68719476736
  obtain ⟨a1, a2⟩ := win_b (x := y) (show (0 : Int) ≤ 1099511627776 by decide)
  obtain ⟨a3, a4⟩ := win_b (x := z) (show (1 : Int) ≤ 68719476736 by decide)
  unfold setF
  clear h ok
  generalize win y 0 1099511627776 = Y at *
  generalize win z 1 68719476736 = Z at *
  have k1 : IntKind.i64.wrap (5 * Y) = 5 * Y := by rw [IntKind.wrap_i64]; omega
  have k2 : IntKind.i64.wrap (4 * Z) = 4 * Z := by rw [IntKind.wrap_i64]; omega
  go_enter Try.func13, Try.ntmps13
  go_wp2_with fail
  refine hf.mono ?_
  rintro e W ⟨rfl, h1, g1⟩
  obtain ⟨t, -, -, -, c3, c4, c5⟩ := h1.full
  have F : Hid (PB (((W.setCell ⟨b, 4, none⟩ (.int .i64 (5 * Y))).setCell ⟨b, 5, none⟩ (.int .i64 (4 * Z))).setCell ⟨b, 3, none⟩ (.int .i64 0)) b { fillF x s with rise := 5 * Y, span := 4 * Z, rest := 0 } ∧ w.grownBy (((W.setCell ⟨b, 4, none⟩ (.int .i64 (5 * Y))).setCell ⟨b, 5, none⟩ (.int .i64 (4 * Z))).setCell ⟨b, 3, none⟩ (.int .i64 0)) (some b)) :=
    ⟨((Blk.setC h1 4 (.int .i64 (5 * Y))).setC 5 (.int .i64 (4 * Z))).setC 3 (.int .i64 0), grown_at (grown_at (grown_at g1 4 _) 5 _) 3 _⟩
  clear h1 g1
  go_wp2_with fail
  refine (w1 _).mono ?_
  rintro e W1 ⟨rfl, rfl⟩
  go_wp2_with fail
  refine (w2 _).mono ?_
  rintro e W1 ⟨rfl, rfl⟩
  go_wp2_with fail
  refine bodyPost_end (results_none rfl _ _ _) rfl ?_
  exact ⟨rfl, unhide F⟩

theorem lacks_b {z l sp r : Int} (h1 : l < z) (h2 : z ≤ 1048576) (h3 : -1048576 ≤ l) (hs : 1 ≤ sp ∧ sp ≤ 274877906944) (hr : 0 ≤ r ∧ r < sp) : 1 ≤ (z - l) * sp - r ∧ (z - l) * sp ≤ 576460752303423488 := by
  have a : 1 * sp ≤ (z - l) * sp := Int.mul_le_mul_of_nonneg_right (by omega) (by omega)
  have b : (z - l) * sp ≤ 2097152 * 274877906944 := Int.mul_le_mul (by omega) hs.2 (by omega) (by omega)
  omega

theorem when_any (b : Nat) (s : Ps) (x z : Int) (w : World) (h : PB w b s) (ok : s.Ok) : Calls Try.prog 15 #[ptr b, .int .i64 x, .int .i64 z] w fun e w' => e = .returned (.int .i64 (whenF x z s)) ∧ PB w' b (fillF x s) ∧ w.grownBy w' (some b) := by
  have hf := fill_any b s x w h ok
  have fk := fill_ok ok x
  unfold whenF
  clear h ok
  generalize fillF x s = f at *
  obtain ⟨b1, b2⟩ := fk.b
  obtain ⟨l1, l2⟩ := fk.l
  obtain ⟨k1, k2⟩ := fk.c
  obtain ⟨e1, e2⟩ := fk.e
  have hr := fk.r
  have hp := fk.p
  obtain ⟨a1, a2⟩ := win_b (x := z) (show (0 : Int) ≤ f.burst by omega)
  have E : Hid (whenG z f = if win z 0 f.burst ≤ f.left then f.clock else if f.rise = 0 then 4611686018427387904 else f.clock + ((win z 0 f.burst - f.left) * f.span - f.rest + f.rise - 1) / f.rise) := rfl
  clear fk
  go_enter Try.func15, Try.ntmps15
  go_wp2_with fail
  refine hf.mono ?_
  rintro e W ⟨rfl, h1, g1⟩
  obtain ⟨t, c0, c1, c2, c3, c4, c5⟩ := h1.full
  have ha := amount_any b f z W h1
  have F : Hid (∀ q q' : Nat, PB ((W.drewN q).drewN q') b f ∧ w.grownBy ((W.drewN q).drewN q') (some b)) := fun q q' => ⟨h1, drewSN (drewSN g1 q) q'⟩
  clear h1 g1 hf
  go_wp2_with fail
  refine ha.mono ?_
  rintro e W1 ⟨rfl, rfl⟩
  generalize win z 0 f.burst = Z at *
  by_cases c : Z ≤ f.left
  · have E' : Hid (whenG z f = f.clock) := by show _ = _; rw [unhide E, if_pos c]
    go_wp2_with fail
    go_ret
    exact ⟨ret_eq E', unhide F 0 0⟩
  · by_cases c' : f.rise = 0
    · have E' : Hid (whenG z f = 4611686018427387904) := by show _ = _; rw [unhide E, if_neg c, if_pos c']
      rw [c'] at c4
      go_wp2_with fail
      go_ret
      exact ⟨ret_eq E', unhide F 0 0⟩
    · obtain ⟨m1, m2⟩ := lacks_b (z := Z) (l := f.left) (sp := f.span) (r := f.rest) (by omega) (by omega) (by omega) hp hr
      have E' : Hid (whenG z f = f.clock + ((Z - f.left) * f.span - f.rest + f.rise - 1) / f.rise) := by show _ = _; rw [unhide E, if_neg c, if_neg c']
      have hb : (f.rise == 0) = false := by simpa using c'
      have i1 : IntKind.i64.wrap (Z - f.left) = Z - f.left := by rw [IntKind.wrap_i64]; omega
      have hn : 0 ≤ (Z - f.left) * f.span := by omega
      have i2 : IntKind.i64.wrap ((Z - f.left) * f.span) = (Z - f.left) * f.span := by
        generalize (Z - f.left) * f.span = M at *
        rw [IntKind.wrap_i64]; omega
      have i3 : IntKind.i64.wrap ((Z - f.left) * f.span - f.rest) = (Z - f.left) * f.span - f.rest := by
        generalize (Z - f.left) * f.span = M at *
        rw [IntKind.wrap_i64]; omega
      have i4 : IntKind.i64.wrap ((Z - f.left) * f.span - f.rest + f.rise) = (Z - f.left) * f.span - f.rest + f.rise := by
        generalize (Z - f.left) * f.span = M at *
        rw [IntKind.wrap_i64]; omega
      have i5 : IntKind.i64.wrap ((Z - f.left) * f.span - f.rest + f.rise - 1) = (Z - f.left) * f.span - f.rest + f.rise - 1 := by
        generalize (Z - f.left) * f.span = M at *
        rw [IntKind.wrap_i64]; omega
      have q0 : 0 ≤ ((Z - f.left) * f.span - f.rest + f.rise - 1) / f.rise := Int.ediv_nonneg (by omega) (by omega)
      have q1 := Int.ediv_le_self f.rise (show 0 ≤ (Z - f.left) * f.span - f.rest + f.rise - 1 by omega)
      have i6 : IntKind.i64.wrap (Int.tdiv ((Z - f.left) * f.span - f.rest + f.rise - 1) f.rise) = ((Z - f.left) * f.span - f.rest + f.rise - 1) / f.rise := by
        rw [Int.tdiv_eq_ediv_of_nonneg (by omega), IntKind.wrap_i64]
        generalize (Z - f.left) * f.span = M at *
        omega
      have i7 : IntKind.i64.wrap (f.clock + ((Z - f.left) * f.span - f.rest + f.rise - 1) / f.rise) = f.clock + ((Z - f.left) * f.span - f.rest + f.rise - 1) / f.rise := by
        rw [IntKind.wrap_i64]
        generalize (Z - f.left) * f.span = M at *
        omega
      clear m1 m2 hn q0 q1 E
      generalize ((Z - f.left) * f.span - f.rest + f.rise - 1) / f.rise = QQ at *
      go_wp2_with fail
      go_quiet (fail)
      all_goals go_wp2_with fail
      all_goals go_quiet (fail)
      all_goals go_wp2_with fail
      all_goals go_ret
      all_goals exact ⟨ret_eq E', unhide F _ _⟩

abbrev fitsF (m : Int) : Prop := 2400 ≤ m ∧ m ≤ 1048576
theorem new_ok (m : Int) (h : fitsF m) (w : World) : Calls Try.prog 8 #[.int .i64 m] w fun e w' => e = .returned (.tuple #[ptr w.heap.size, .int .i64 0]) ∧ w' = w.alloc (.cells (pcc (ps0 m)) 48) := by
  obtain ⟨m1, m2⟩ := h
  have n1 : ¬ m < 2400 := by omega
  have n2 : ¬ (1048576 : Int) < m := by omega
  go_enter Try.func8, Try.ntmps8
  go_wp2
  go_ret2
  exact ⟨rfl, rfl⟩
theorem new_no (m : Int) (h : ¬ fitsF m) (w : World) : Calls Try.prog 8 #[.int .i64 m] w fun e w' => e = .returned (.tuple #[.pointer none, .int .i64 1]) ∧ w' = w := by
  by_cases n1 : m < 2400
  · go_enter Try.func8, Try.ntmps8
    go_wp2
    go_ret2
    exact ⟨rfl, rfl⟩
  · have n2 : (1048576 : Int) < m := by unfold fitsF at h; omega
    clear h
    go_enter Try.func8, Try.ntmps8
    go_wp2
    go_ret2
    exact ⟨rfl, rfl⟩
end Go.Proofs.Ytlfldbagbafjfaa
