/- noCurve, leaveCurve, Collapse; lastPeak, cube. -/
import Derived.Test.YthpnbajhogoinaaIF
namespace Go.Proofs.Ythpnbajhogoinaa
open Go.RowKit Fl
set_option linter.unusedVariables false
set_option maxRecDepth 100000
set_option maxHeartbeats 2000000

theorem run_store_float {P : Program} {w : World} {a : Addr} {m : Mode} (k : FloatKind) (n : Nat) : (store a (.float k n) m).run P w = stored P w a (.float k n) m := run_store P w a _ m rfl
attribute [local go_sem] run_store_float

theorem grown_any' {w W : World} (g : w.grownBy W none) (b : Nat) : w.grownBy W (some b) := ⟨g.os, g.tape, g.output, g.size, fun i hi _ => g.block i hi (by simp)⟩
abbrev noV : Value := .agg #[.int .i64 (-1), fv 0, .int .i64 0, fv 0]
theorem nocurve_any (w : World) : Calls Try.prog 27 #[] w fun e w' => e = .returned noV ∧ w.grownBy w' none := by
  have F := hide (And.intro (Blk.new w #[.int .i64 (-1), fv 0, .int .i64 0, fv 0] 59) (World.grownBy_alloc w (.cells #[.int .i64 (-1), fv 0, .int .i64 0, fv 0] 59) none))
  go_enter Try.func27, Try.ntmps27
  go_wp2
  refine bodyPost_ret (results_cell_row rfl _ _ w.heap.size 59 _ (0, 0) _ rfl (unhide F).1 Try.underlying59 rfl Try.sizeV) rfl ?_
  exact ⟨rfl, (unhide F).2⟩

theorem leave_any (b : Nat) (s : Cs) (w : World) (h : CB w b s) : Calls Try.prog 41 #[ptr b] w fun e w' => e = .returned (.tuple #[]) ∧ CB w' b (leaveF s) ∧ w.grownBy w' (some b) := by
  have N := nocurve_any w
  go_enter Try.func41, Try.ntmps41
  go_wp2_with fail
  refine N.mono ?_
  rintro e W ⟨rfl, g⟩
  have h1 := h.grown g
  have F := hide (And.intro (show CB (((((W.setCell ⟨b, 7, none⟩ (.int .i64 (-1))).setCell ⟨b, 8, none⟩ (fv 0)).setCell ⟨b, 9, none⟩ (.int .i64 0)).setCell ⟨b, 10, none⟩ (fv 0)).setCell ⟨b, 11, none⟩ (fv 0)) b (leaveF s) from ((((Blk.setC h1 7 _).setC 8 _).setC 9 _).setC 10 _).setC 11 _) (grown_at (grown_at (grown_at (grown_at (grown_at (grown_any' g b) 7 (.int .i64 (-1))) 8 (fv 0)) 9 (.int .i64 0)) 10 (fv 0)) 11 (fv 0)))
  obtain ⟨t, -⟩ := h1.full
  obtain ⟨c6, c7, c8, c9, c10, c11⟩ := h1.more
  clear N h h1 g
  go_wp2_with fail
  refine bodyPost_end (results_none rfl _ _ _) rfl ?_
  exact ⟨rfl, (unhide F).1, (unhide F).2⟩

theorem collapse_any (b : Nat) (s : Cs) (w : World) (h : CB w b s) (hm : 1200 ≤ s.mtu ∧ s.mtu ≤ 9000) : Calls Try.prog 23 #[ptr b] w fun e w' => e = .returned (.tuple #[]) ∧ CB w' b (collF s) ∧ w.grownBy w' (some b) := by
  have hl := least_any b s w h hm
  obtain ⟨t, c0, c1, c2, c3, c4, c5⟩ := h.full
  have h1 : CB ((w.setCell ⟨b, 2, none⟩ (.int .i64 (2 * s.mtu))).setCell ⟨b, 5, none⟩ (.int .i64 (-1))) b { s with size := 2 * s.mtu, began := -1 } := (Blk.setC h 2 _).setC 5 _
  have g1 := hide (grown_at (grown_at (World.grownBy.refl w (some b)) 2 (.int .i64 (2 * s.mtu))) 5 (.int .i64 (-1)))
  have L := leave_any b _ _ h1
  clear h hm h1
  go_enter Try.func23, Try.ntmps23
  go_wp2_with fail
  refine hl.mono ?_
  rintro e W ⟨rfl, rfl⟩
  go_wp2_with fail
  refine L.mono ?_
  rintro e W2 ⟨rfl, h2, g2⟩
  go_wp2_with fail
  refine bodyPost_end (results_none rfl _ _ _) rfl ?_
  exact ⟨rfl, h2, gtrans (unhide g1) g2⟩

theorem fbin {op : BinOp} {x y r : Nat} (h : floatBits op .f64 x y = some r) (w : World) : (binOp op 31 (.float .f64 x) (.float .f64 y)).run Try.prog w = .ok (.float .f64 r) w := run_float_arith w op _ .f64 x y r h
theorem fadd {x y : Nat} (hx : x < inf) (hy : y < inf) (w : World) : (binOp .add 31 (.float .f64 x) (.float .f64 y)).run Try.prog w = .ok (.float .f64 (addW x y)) w := fbin (op := .add) (x := x) (y := y) (add_eq hx hy) w
theorem fsub {x y : Nat} (hx : x < inf) (hy : y < inf) (h : y ≤ x) (w : World) : (binOp .sub 31 (.float .f64 x) (.float .f64 y)).run Try.prog w = .ok (.float .f64 (subW x y)) w := fbin (op := .sub) (x := x) (y := y) (sub_eq hx hy h) w
theorem fmul {x y : Nat} (hx : x < inf) (hy : y < inf) (w : World) : (binOp .mul 31 (.float .f64 x) (.float .f64 y)).run Try.prog w = .ok (.float .f64 (mulW x y)) w := fbin (op := .mul) (x := x) (y := y) (mul_eq hx hy) w
theorem fdiv {x y : Nat} (hx : x < inf) (hy : y < inf) (h : 2 ^ 52 ≤ y) (w : World) : (binOp .quo 31 (.float .f64 x) (.float .f64 y)).run Try.prog w = .ok (.float .f64 (divW x y)) w := fbin (op := .quo) (x := x) (y := y) (div_eq hx hy h) w
theorem olt {x y : Nat} (hx : x < inf) (hy : y < inf) : (FloatKind.f64.format.order x y == some .lt) = decide (x < y) := by
  rw [show FloatKind.f64.format.order x y = some (compare x y) from order_eq hx hy]
  by_cases c : x < y
  · rw [Nat.compare_eq_lt.2 c, decide_eq_true c]; rfl
  · rw [decide_eq_false c]
    rcases Nat.lt_or_eq_of_le (Nat.not_lt.1 c) with d | d
    · rw [Nat.compare_eq_gt.2 d]; rfl
    · rw [Nat.compare_eq_eq.2 d.symm]; rfl
theorem ogt {x y : Nat} (hx : x < inf) (hy : y < inf) : (FloatKind.f64.format.order x y == some .gt) = decide (y < x) := by
  rw [show FloatKind.f64.format.order x y = some (compare x y) from order_eq hx hy]
  by_cases c : y < x
  · rw [Nat.compare_eq_gt.2 c, decide_eq_true c]; rfl
  · rw [decide_eq_false c]
    rcases Nat.lt_or_eq_of_le (Nat.not_lt.1 c) with d | d
    · rw [Nat.compare_eq_lt.2 d]; rfl
    · rw [Nat.compare_eq_eq.2 d]; rfl
theorem oeq {x y : Nat} (hx : x < inf) (hy : y < inf) : (FloatKind.f64.format.order x y == some .eq) = decide (x = y) := by
  rw [show FloatKind.f64.format.order x y = some (compare x y) from order_eq hx hy]
  by_cases c : x = y
  · rw [Nat.compare_eq_eq.2 c, decide_eq_true c]; rfl
  · rw [decide_eq_false c]
    rcases Nat.lt_or_gt_of_ne c with d | d
    · rw [Nat.compare_eq_lt.2 d]; rfl
    · rw [Nat.compare_eq_gt.2 d]; rfl

theorem peak_any (x y : Nat) (hx : x < inf) (hy : y < inf) (w : World) : Calls Try.prog 40 #[fv x, fv y] w fun e w' => e = .returned (fv (if x < y then mulW x c85 else x)) ∧ w' = w := by
  have l := olt hx hy
  have m := fmul hx (show c85 < inf by decide)
  by_cases c : x < y
  · rw [if_pos c]
    rw [decide_eq_true c] at l
    clear hx hy c
    generalize mulW x c85 = z at *
    go_enter Try.func40, Try.ntmps40
    go_wp2
    go_ret
    exact ⟨rfl, rfl⟩
  · rw [if_neg c]
    rw [decide_eq_false c] at l
    clear hx hy c m
    go_enter Try.func40, Try.ntmps40
    go_wp2
    go_ret
    exact ⟨rfl, rfl⟩

/-- A word with a sign. -/
def sg (d : Int) (x : Nat) : Nat := Ieee.double.word (decide (d < 0)) x
theorem read_sg (d : Int) {x : Nat} (hx : x < inf) : ∃ m p, Ieee.double.read (sg d x) = .number (decide (d < 0)) m p ∧ Ieee.double.read x = .number false m p := by
  unfold sg
  cases decide (d < 0) with
  | true => exact read_neg hx
  | false => rw [word_f]; exact read_pos hx
theorem cube_ops (d : Int) (hd : d.natAbs ≤ D51) (m : Nat) (hm : m ≤ 9000) : (∀ w, (binOp .quo 31 (.float .f64 (floatOfInt .f64 d)) (.float .f64 c6)).run Try.prog w = .ok (.float .f64 (sg d (sW d.natAbs))) w) ∧ (∀ w, (binOp .mul 31 (.float .f64 (sg d (sW d.natAbs))) (.float .f64 (sg d (sW d.natAbs)))).run Try.prog w = .ok (.float .f64 (qW d.natAbs)) w) ∧ (∀ w, (binOp .mul 31 (.float .f64 (qW d.natAbs)) (.float .f64 (sg d (sW d.natAbs)))).run Try.prog w = .ok (.float .f64 (sg d (tW d.natAbs))) w) ∧ (∀ w, (binOp .mul 31 (.float .f64 c04) (.float .f64 (floatOfInt .f64 (m : Int)))).run Try.prog w = .ok (.float .f64 (oW m)) w) ∧ (∀ w, (binOp .mul 31 (.float .f64 (sg d (tW d.natAbs))) (.float .f64 (oW m))).run Try.prog w = .ok (.float .f64 (sg d (cubeW d.natAbs m))) w) := by
  have hI : I d.natAbs < inf := I_lt (by unfold D51 at hd; omega)
  have e0 : floatOfInt .f64 d = sg d (I d.natAbs) := ofInt_eq d
  have xf : (decide (d < 0) ^^ false) = decide (d < 0) := by cases decide (d < 0) <;> rfl
  have fx : (false ^^ decide (d < 0)) = decide (d < 0) := by cases decide (d < 0) <;> rfl
  have xx : (decide (d < 0) ^^ decide (d < 0)) = false := by cases decide (d < 0) <;> rfl
  refine ⟨?_, ?_, ?_, ?_, ?_⟩
  · intro w
    have h := div_any (decide (d < 0)) false hI (show c6 < inf by decide) (by decide) (read_sg d hI) (read_pos (by decide))
    rw [xf] at h
    rw [e0]
    exact fbin (op := .quo) (x := sg d (I d.natAbs)) (y := c6) h w
  · intro w
    have h := mul_any (decide (d < 0)) (decide (d < 0)) (s_lt hd) (s_lt hd) (read_sg d (s_lt hd)) (read_sg d (s_lt hd))
    rw [xx, word_f] at h
    exact fbin (op := .mul) (x := sg d (sW d.natAbs)) (y := sg d (sW d.natAbs)) h w
  · intro w
    have h := mul_any false (decide (d < 0)) (q_lt hd) (s_lt hd) (read_pos (q_lt hd)) (read_sg d (s_lt hd))
    rw [fx] at h
    exact fbin (op := .mul) (x := qW d.natAbs) (y := sg d (sW d.natAbs)) h w
  · intro w
    rw [ofNat_eq]
    exact fmul (by decide) (I_lt (by omega)) w
  · intro w
    have h := mul_any (decide (d < 0)) false (t_lt hd) (o_lt hm) (read_sg d (t_lt hd)) (read_pos (o_lt hm))
    rw [xf] at h
    exact fbin (op := .mul) (x := sg d (tW d.natAbs)) (y := oW m) h w
theorem cube_any (d : Int) (hd : d.natAbs ≤ D51) (m : Nat) (hm : m ≤ 9000) (w : World) : Calls Try.prog 54 #[.int .i64 d, .int .i64 (m : Int)] w fun e w' => e = .returned (fv (sg d (cubeW d.natAbs m))) ∧ w' = w := by
  obtain ⟨o1, o2, o3, o4, o5⟩ := cube_ops d hd m hm
  clear hd hm
  generalize sg d (cubeW d.natAbs m) = z5 at *
  generalize oW m = z4 at *
  generalize sg d (tW d.natAbs) = z3 at *
  generalize qW d.natAbs = z2 at *
  generalize sg d (sW d.natAbs) = z1 at *
  generalize (m : Int) = mi at *
  go_enter Try.func54, Try.ntmps54
  go_wp2
  go_ret
  exact ⟨rfl, rfl⟩
theorem rcube_any (d : Int) (hd : d.natAbs ≤ D51) (m : Nat) (hm : m ≤ 9000) (w : World) : Calls Try.prog 45 #[.int .i64 d, .int .i64 (m : Int)] w fun e w' => e = .returned (fv (sg d (cubeW d.natAbs m))) ∧ w' = w := by
  obtain ⟨o1, o2, o3, o4, o5⟩ := cube_ops d hd m hm
  clear hd hm
  generalize sg d (cubeW d.natAbs m) = z5 at *
  generalize oW m = z4 at *
  generalize sg d (tW d.natAbs) = z3 at *
  generalize qW d.natAbs = z2 at *
  generalize sg d (sW d.natAbs) = z1 at *
  generalize (m : Int) = mi at *
  go_enter Try.func45, Try.ntmps45
  go_wp2
  go_ret
  exact ⟨rfl, rfl⟩
end Go.Proofs.Ythpnbajhogoinaa
