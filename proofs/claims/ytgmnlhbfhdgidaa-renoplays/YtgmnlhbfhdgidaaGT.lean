/- should, at place 0. -/
import Derived.Test.YtgmnlhbfhdgidaaGE
import Derived.Test.YtgmnlhbfhdgidaaGR2
import Derived.Test.YtgmnlhbfhdgidaaGR3
namespace Go.Proofs.Ytgmnlhbfhdgidaa
open Go.RowKit
set_option linter.unusedVariables false
set_option maxRecDepth 100000
set_option maxHeartbeats 4000000

theorem should_0 (b : Nat) (s S : Cs) (y : OpE) (w : World) (h : RB w b s S) (hi : inB s) :
    Calls Try.prog 16 #[ptrO b 0, .agg (opc y)] w fun e w' => e = .returned (.bool (cutF y s)) ∧ RB w' b (doesF y s) S ∧ w.grownBy w' (some b) := by
  have ga := World.grownBy_alloc w (.cells (opc y) 39) (some b)
  have h0 : RB (w.alloc (.cells (opc y) 39)) b s S := h.alloc _
  have X1 := rsent_0 b s S y.size _ h0 hi.2.1
  have X2 := racked_0 b s S y.now y.sent y.size y.lim _ h0 hi
  have X3 := rgone_0 b s S y.size _ h0 hi.2.1
  have X4 := rgone_0 b s S y.size _ h0 hi.2.1
  have X5 := revent_0 b s S y.now y.sent _ h0 hi
  have X6 := rcoll_0 b s S _ h0 hi.1
  have H0 := hide h0
  have GA := hide ga
  have GT := hide (fun W (g : (w.alloc (.cells (opc y) 39)).grownBy W (some b)) => gtrans ga g)
  clear h hi h0 ga
  obtain ⟨kd, hh, nw, st, sx, lm⟩ := y
  unfold opc at *
  dsimp only at *
  by_cases k1 : kd = 1
  · subst k1
    have E : Hid (cutF ⟨1, hh, nw, st, sx, lm⟩ s = false) := by show _ = _; simp [cutF]
    have D : Hid (doesF ⟨1, hh, nw, st, sx, lm⟩ s = sentF sx s) := by show _ = _; simp [doesF]
    clear X2 X3 X4 X5 X6
    go_enter Try.func16, Try.ntmps16
    go_wp2_with fail
    refine X1.mono ?_
    rintro e W ⟨rfl, h1, g1⟩
    have FF := hide (And.intro h1 (unhide GT _ g1))
    clear X1 h1 g1
    go_wp2_with fail
    go_ret
    exact ⟨ret_beqq E, by rw [unhide D]; exact (unhide FF).1, (unhide FF).2⟩
  by_cases k2 : kd = 2
  · subst k2
    have E : Hid (cutF ⟨2, hh, nw, st, sx, lm⟩ s = false) := by show _ = _; simp [cutF]
    have D : Hid (doesF ⟨2, hh, nw, st, sx, lm⟩ s = ackF nw st sx lm s) := by show _ = _; simp [doesF]
    clear X1 X3 X4 X5 X6
    go_enter Try.func16, Try.ntmps16
    go_wp2_with fail
    refine X2.mono ?_
    rintro e W ⟨rfl, h1, g1⟩
    have FF := hide (And.intro h1 (unhide GT _ g1))
    clear X2 h1 g1
    go_wp2_with fail
    go_ret
    exact ⟨ret_beqq E, by rw [unhide D]; exact (unhide FF).1, (unhide FF).2⟩
  by_cases k3 : kd = 3
  · subst k3
    have E : Hid (cutF ⟨3, hh, nw, st, sx, lm⟩ s = false) := by show _ = _; simp [cutF]
    have D : Hid (doesF ⟨3, hh, nw, st, sx, lm⟩ s = landF sx s) := by show _ = _; simp [doesF]
    clear X1 X2 X4 X5 X6
    go_enter Try.func16, Try.ntmps16
    go_wp2_with fail
    refine X3.mono ?_
    rintro e W ⟨rfl, h1, g1⟩
    have FF := hide (And.intro h1 (unhide GT _ g1))
    clear X3 h1 g1
    go_wp2_with fail
    go_ret
    exact ⟨ret_beqq E, by rw [unhide D]; exact (unhide FF).1, (unhide FF).2⟩
  by_cases k4 : kd = 4
  · subst k4
    have E : Hid (cutF ⟨4, hh, nw, st, sx, lm⟩ s = false) := by show _ = _; simp [cutF]
    have D : Hid (doesF ⟨4, hh, nw, st, sx, lm⟩ s = landF sx s) := by show _ = _; simp [doesF]
    clear X1 X2 X3 X5 X6
    go_enter Try.func16, Try.ntmps16
    go_wp2_with fail
    refine X4.mono ?_
    rintro e W ⟨rfl, h1, g1⟩
    have FF := hide (And.intro h1 (unhide GT _ g1))
    clear X4 h1 g1
    go_wp2_with fail
    go_ret
    exact ⟨ret_beqq E, by rw [unhide D]; exact (unhide FF).1, (unhide FF).2⟩
  by_cases k5 : kd = 5
  · subst k5
    have E : Hid (cutF ⟨5, hh, nw, st, sx, lm⟩ s = !aheadB st s) := by show _ = _; simp [cutF]
    have D : Hid (doesF ⟨5, hh, nw, st, sx, lm⟩ s = eventF nw st s) := by show _ = _; simp [doesF]
    clear X1 X2 X3 X4 X6
    go_enter Try.func16, Try.ntmps16
    go_wp2_with fail
    refine X5.mono ?_
    rintro e W ⟨rfl, h1, g1⟩
    have FF := hide (And.intro h1 (unhide GT _ g1))
    clear X5 h1 g1
    go_wp2_with fail
    go_ret
    exact ⟨ret_beqq E, by rw [unhide D]; exact (unhide FF).1, (unhide FF).2⟩
  by_cases k6 : kd = 6
  · subst k6
    have E : Hid (cutF ⟨6, hh, nw, st, sx, lm⟩ s = false) := by show _ = _; simp [cutF]
    have D : Hid (doesF ⟨6, hh, nw, st, sx, lm⟩ s = collF s) := by show _ = _; simp [doesF]
    clear X1 X2 X3 X4 X5
    go_enter Try.func16, Try.ntmps16
    go_wp2_with fail
    refine X6.mono ?_
    rintro e W ⟨rfl, h1, g1⟩
    have FF := hide (And.intro h1 (unhide GT _ g1))
    clear X6 h1 g1
    go_wp2_with fail
    go_ret
    exact ⟨ret_beqq E, by rw [unhide D]; exact (unhide FF).1, (unhide FF).2⟩
  have E : Hid (cutF ⟨kd, hh, nw, st, sx, lm⟩ s = false) := by show _ = _; simp [cutF, k5]
  have D : Hid (doesF ⟨kd, hh, nw, st, sx, lm⟩ s = s) := by show _ = _; simp [doesF, k1, k2, k3, k4, k5, k6]
  clear X1 X2 X3 X4 X5 X6
  go_enter Try.func16, Try.ntmps16
  go_wp2_with fail
  go_ret
  exact ⟨ret_beqq E, by rw [unhide D]; exact unhide H0, unhide GA⟩
end Go.Proofs.Ytgmnlhbfhdgidaa
