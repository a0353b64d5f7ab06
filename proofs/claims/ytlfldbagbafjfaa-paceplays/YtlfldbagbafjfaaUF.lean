/- The document's functions: Size, Asked, Set, When, Spend, New, Takes. -/
import Derived.Test.YtlfldbagbafjfaaUE
import Derived.Test.YtlfldbagbafjfaaUD
namespace Go.Proofs.Ytlfldbagbafjfaa
open Go.RowKit
set_option linter.unusedVariables false
set_option maxRecDepth 100000
set_option maxHeartbeats 4000000

theorem rsize_any (b o p : Nat) (s S : Ps) (x : Int) (w : World) (h : RB w b o p s S) (hb : 0 ≤ s.burst) : Calls Try.prog 27 #[ptrO b o, .int .i64 x] w fun e w' => e = .returned (.int .i64 (win x 0 s.burst)) ∧ w' = w := by
  have hw := into_any x 0 s.burst hb w
  obtain ⟨t, c0, -⟩ := h.full
  clear h
  go_enter Try.func27, Try.ntmps27
  go_wp2_with fail
  refine hw.mono ?_
  rintro e W ⟨rfl, rfl⟩
  go_wp2_with fail
  go_ret
  exact ⟨rfl, rfl⟩

theorem rasked_any (b o p : Nat) (s S : Ps) (x : Int) (w : World) (h : RB w b o p s S) (hs : Sep o p) (ok : s.Ok) : Calls Try.prog 20 #[ptrO b o, .int .i64 x] w fun e w' => e = .returned (.int .i64 (fillF x s).left) ∧ RT w w' b o p (fillF x s) S := by
  have hf := rfill_any b o p s S x w h hs ok
  clear h ok
  go_enter Try.func20, Try.ntmps20
  go_wp2_with fail
  refine hf.mono ?_
  rintro e W ⟨rfl, h1⟩
  obtain ⟨t, -, c1, -⟩ := h1.at_.full
  have F := hide h1
  clear h1
  go_wp2_with fail
  go_ret
  exact ⟨rfl, unhide F⟩

theorem rset_any (b o p : Nat) (s S : Ps) (x y z : Int) (w : World) (h : RB w b o p s S) (hs : Sep o p) (ok : s.Ok) : Calls Try.prog 14 #[ptrO b o, .int .i64 x, .int .i64 y, .int .i64 z] w fun e w' => e = .returned (.tuple #[]) ∧ RT w w' b o p (setF x y z s) S := by
  have hf := rfill_any b o p s S x w h hs ok
  have w1 := into_any y 0 1099511627776 (by decide)
  have w2 := into_any z 1 68719476736 (by decide)
  obtain ⟨a1, a2⟩ := win_b (x := y) (show (0 : Int) ≤ 1099511627776 by decide)
  obtain ⟨a3, a4⟩ := win_b (x := z) (show (1 : Int) ≤ 68719476736 by decide)
  unfold setF
  clear h ok
  generalize win y 0 1099511627776 = Y at *
  generalize win z 1 68719476736 = Z at *
  have k1 : IntKind.i64.wrap (5 * Y) = 5 * Y := by rw [IntKind.wrap_i64]; omega
  have k2 : IntKind.i64.wrap (4 * Z) = 4 * Z := by rw [IntKind.wrap_i64]; omega
  go_enter Try.func14, Try.ntmps14
  go_wp2_with fail
  refine hf.mono ?_
  rintro e W ⟨rfl, h1⟩
  obtain ⟨t, -, -, c2, c3, c4, -⟩ := h1.at_.full
  have F : Hid (RT w (((W.setCell ⟨b, o + 3, none⟩ (.int .i64 (5 * Y))).setCell ⟨b, o + 4, none⟩ (.int .i64 (4 * Z))).setCell ⟨b, o + 2, none⟩ (.int .i64 0)) b o p { fillF x s with rise := 5 * Y, span := 4 * Z, rest := 0 } S) :=
    ((h1.rise hs (5 * Y)).span hs (4 * Z)).rest hs 0
  clear h1
  go_wp2_with fail
  refine (w1 _).mono ?_
  rintro e W1 ⟨rfl, rfl⟩
  go_wp2_with fail
  refine (w2 _).mono ?_
  rintro e W1 ⟨rfl, rfl⟩
  go_wp2_with fail
  refine bodyPost_end (results_none rfl _ _ _) rfl ?_
  exact ⟨rfl, unhide F⟩

/-- Rounded up. -/
theorem ceil_eq {l r : Int} (hr : 0 < r) (hl : 0 ≤ l) : (l + r - 1) / r = if 0 < l % r then l / r + 1 else l / r := by
  have e := Int.mul_ediv_add_emod l r
  have m0 := Int.emod_nonneg l (show r ≠ 0 by omega)
  have m1 := Int.emod_lt_of_pos l hr
  split
  · have : l + r - 1 = (l % r - 1) + r * (l / r + 1) := by rw [Int.mul_add, Int.mul_one]; omega
    rw [this, Int.add_mul_ediv_left _ _ (by omega), Int.ediv_eq_zero_of_lt (by omega) (by omega)]
    omega
  · have : l + r - 1 = (r - 1) + r * (l / r) := by omega
    rw [this, Int.add_mul_ediv_left _ _ (by omega), Int.ediv_eq_zero_of_lt (by omega) (by omega)]
    omega

theorem rwhen_any (b o p : Nat) (s S : Ps) (x z : Int) (w : World) (h : RB w b o p s S) (hs : Sep o p) (ok : s.Ok) : Calls Try.prog 16 #[ptrO b o, .int .i64 x, .int .i64 z] w fun e w' => e = .returned (.int .i64 (whenF x z s)) ∧ RT w w' b o p (fillF x s) S := by
  have hf := rfill_any b o p s S x w h hs ok
  have fk := fill_ok ok x
  unfold whenF
  clear h ok
  generalize fillF x s = f at *
  obtain ⟨b1, b2⟩ := fk.b
  obtain ⟨l1, l2⟩ := fk.l
  obtain ⟨k1, k2⟩ := fk.c
  obtain ⟨e1, e2⟩ := fk.e
  have hr := fk.r
  have hp := fk.p
  obtain ⟨a1, a2⟩ := win_b (x := z) (show (0 : Int) ≤ f.burst by omega)
  have E : Hid (whenG z f = if win z 0 f.burst ≤ f.left then f.clock else if f.rise = 0 then 4611686018427387904 else f.clock + ((win z 0 f.burst - f.left) * f.span - f.rest + f.rise - 1) / f.rise) := rfl
  clear fk
  go_enter Try.func16, Try.ntmps16
  go_wp2_with fail
  refine hf.mono ?_
  rintro e W ⟨rfl, h1⟩
  obtain ⟨t, c0, c1, c2, c3, c4, c5⟩ := h1.at_.full
  have ha := rsize_any b o p f S z W h1.at_ (by omega)
  have F : Hid (∀ q : Nat, RT w (W.drewN q) b o p f S) := fun q => h1.draw q
  clear h1 hf
  go_wp2_with fail
  refine ha.mono ?_
  rintro e W1 ⟨rfl, rfl⟩
  generalize win z 0 f.burst = Z at *
  by_cases c : Z ≤ f.left
  · have E' : Hid (whenG z f = f.clock) := by show _ = _; rw [unhide E, if_pos c]
    go_wp2_with fail
    go_ret
    exact ⟨ret_eq E', unhide F 0⟩
  · by_cases c' : f.rise = 0
    · have E' : Hid (whenG z f = 4611686018427387904) := by show _ = _; rw [unhide E, if_neg c, if_pos c']
      rw [c'] at c3
      go_wp2_with fail
      go_ret
      exact ⟨ret_eq E', unhide F 0⟩
    · obtain ⟨m1, m2⟩ := lacks_b (z := Z) (l := f.left) (sp := f.span) (r := f.rest) (by omega) (by omega) (by omega) hp hr
      have E' : Hid (whenG z f = f.clock + ((Z - f.left) * f.span - f.rest + f.rise - 1) / f.rise) := by show _ = _; rw [unhide E, if_neg c, if_neg c']
      have hb : (f.rise == 0) = false := by simpa using c'
      have i1 : IntKind.i64.wrap (Z - f.left) = Z - f.left := by rw [IntKind.wrap_i64]; omega
      have i2 : IntKind.i64.wrap ((Z - f.left) * f.span) = (Z - f.left) * f.span := by
        generalize (Z - f.left) * f.span = M at *
        rw [IntKind.wrap_i64]; omega
      obtain ⟨L, hL⟩ : ∃ L, L = (Z - f.left) * f.span - f.rest := ⟨_, rfl⟩
      have i3 : IntKind.i64.wrap ((Z - f.left) * f.span - f.rest) = L := by
        rw [hL]
        generalize (Z - f.left) * f.span = M at *
        rw [IntKind.wrap_i64]; omega
      rw [← hL] at m1 E'
      have L2 : L ≤ 576460752303423488 := by omega
      have rp : 0 < f.rise := by omega
      have ce := ceil_eq rp (show 0 ≤ L by omega)
      have q0 : 0 ≤ L / f.rise := Int.ediv_nonneg (by omega) (by omega)
      have q1 := Int.ediv_le_self f.rise (show 0 ≤ L by omega)
      have i6 : IntKind.i64.wrap (Int.tdiv L f.rise) = L / f.rise := by
        rw [Int.tdiv_eq_ediv_of_nonneg (by omega), IntKind.wrap_i64]; omega
      have i9 : Int.tmod L f.rise = L % f.rise := Int.tmod_eq_emod_of_nonneg (by omega)
      have m0 := Int.emod_nonneg L c'
      have i7 : IntKind.i64.wrap (L / f.rise + 1) = L / f.rise + 1 := by rw [IntKind.wrap_i64]; omega
      have i8 : IntKind.i64.wrap (f.clock + (L / f.rise + 1)) = f.clock + (L / f.rise + 1) := by rw [IntKind.wrap_i64]; omega
      have i8' : IntKind.i64.wrap (f.clock + L / f.rise) = f.clock + L / f.rise := by rw [IntKind.wrap_i64]; omega
      clear m1 m2 E hL
      generalize L / f.rise = QQ at *
      by_cases cm : 0 < L % f.rise
      · rw [if_pos cm] at ce
        rw [ce] at E'
        clear ce
        generalize L % f.rise = MM at *
        go_wp2_with fail
        go_quiet (fail)
        all_goals go_wp2_with fail
        all_goals go_ret
        all_goals exact ⟨ret_eq E', unhide F _⟩
      · rw [if_neg cm] at ce
        rw [ce] at E'
        clear ce
        generalize L % f.rise = MM at *
        go_wp2_with fail
        go_quiet (fail)
        all_goals go_wp2_with fail
        all_goals go_ret
        all_goals exact ⟨ret_eq E', unhide F _⟩

theorem rnew_any (m : Int) (w : World) : Calls Try.prog 11 #[.int .i64 m] w fun e w' => e = .returned (.agg (rcc (ps0 m))) ∧ w' = w.alloc (.cells (rcc (ps0 m)) 32) := by
  have sz : (Try.prog.info? 32).map (·.size) = some 6 := by kernel_rfl
  have F := hide (Blk.new w (rcc (ps0 m)) 32)
  go_enter Try.func11, Try.ntmps11
  go_wp2
  refine bodyPost_ret (results_cell_row rfl _ _ w.heap.size 32 _ (0, 0) _ rfl (unhide F) Try.underlying32 rfl sz) rfl ?_
  exact ⟨rfl, rfl⟩

theorem takes_ok (m : Int) (h : fitsF m) (w : World) : Calls Try.prog 9 #[.int .i64 m] w fun e w' => e = .returned (.bool true) ∧ w' = w := by
  obtain ⟨i1, i2⟩ := h
  go_enter Try.func9, Try.ntmps9
  go_wp2
  go_ret
  exact ⟨rfl, rfl⟩
theorem takes_no (m : Int) (h : ¬ fitsF m) (w : World) : Calls Try.prog 9 #[.int .i64 m] w fun e w' => e = .returned (.bool false) ∧ w' = w := by
  by_cases n1 : 2400 ≤ m
  · have n2 : ¬ m ≤ 1048576 := fun k => h ⟨n1, k⟩
    clear h
    go_enter Try.func9, Try.ntmps9
    go_wp2
    go_ret
    exact ⟨rfl, rfl⟩
  · clear h
    go_enter Try.func9, Try.ntmps9
    go_wp2
    go_ret
    exact ⟨rfl, rfl⟩
end Go.Proofs.Ytlfldbagbafjfaa
