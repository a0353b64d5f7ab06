/- New, ctl, mtu; the document's New. -/
import Derived.Test.YtgmnlhbfhdgidaaGD
namespace Go.Proofs.Ytgmnlhbfhdgidaa
open Go.RowKit
set_option linter.unusedVariables false
set_option maxRecDepth 100000
set_option maxHeartbeats 4000000

theorem new_no (m : Int) (h : ¬ fitsF m) (w : World) : Calls Try.prog 10 #[.int .i64 m] w fun e w' => e = .returned (.tuple #[.pointer none, .int .i64 1]) ∧ w' = w := by
  by_cases n1 : m < 1200
  · go_enter Try.func10, Try.ntmps10
    go_wp2
    go_ret2
    exact ⟨rfl, rfl⟩
  · have n2 : (9000 : Int) < m := by unfold fitsF at h; omega
    go_enter Try.func10, Try.ntmps10
    go_wp2
    go_ret2
    exact ⟨rfl, rfl⟩
theorem takes_ok (m : Int) (h : fitsF m) (w : World) : Calls Try.prog 11 #[.int .i64 m] w fun e w' => e = .returned (.bool true) ∧ w' = w := by
  obtain ⟨m1, m2⟩ := h
  go_enter Try.func11, Try.ntmps11
  go_wp2
  go_ret
  exact ⟨rfl, rfl⟩
theorem takes_no (m : Int) (h : ¬ fitsF m) (w : World) : Calls Try.prog 11 #[.int .i64 m] w fun e w' => e = .returned (.bool false) ∧ w' = w := by
  by_cases n1 : 1200 ≤ m
  · have n2 : ¬ m ≤ 9000 := by unfold fitsF at h; omega
    go_enter Try.func11, Try.ntmps11
    go_wp2
    go_ret
    exact ⟨rfl, rfl⟩
  · go_enter Try.func11, Try.ntmps11
    go_wp2
    go_ret
    exact ⟨rfl, rfl⟩

abbrev i64B (x : Int) : Prop := -9223372036854775808 ≤ x ∧ x ≤ 9223372036854775807
def mtuF (n : Int) : Int := 1200 + (if n < 0 then -(n + 1) else n) % 7801
theorem mtu_fits (n : Int) : fitsF (mtuF n) := by unfold mtuF fitsF; omega
theorem mtu_any (n : Int) (h : i64B n) (w : World) : Calls Try.prog 14 #[.int .i64 n] w fun e w' => e = .returned (.int .i64 (mtuF n)) ∧ w' = w := by
  obtain ⟨n1, n2⟩ := h
  by_cases hn : n < 0
  · have E : Hid (mtuF n = 1200 + (-(n + 1)) % 7801) := by show _ = _; unfold mtuF; rw [if_pos hn]
    generalize mtuF n = R at *
    have h0 : 0 ≤ -(n + 1) := by omega
    have hT : (n + 1).tmod 7801 = -((-(n + 1)) % 7801) := by
      rw [← Int.tmod_eq_emod_of_nonneg h0, Int.neg_tmod, Int.neg_neg]
    have r1 : 0 ≤ (-(n + 1)) % 7801 := by omega
    have r2 : (-(n + 1)) % 7801 < 7801 := by omega
    generalize (-(n + 1)) % 7801 = r at *
    go_enter Try.func14, Try.ntmps14
    go_wp2
    go_ret
    first
      | exact ⟨ret_eq E, rfl⟩
      | (rw [hT]; refine ⟨ret_eq (show R = _ from ?_), rfl⟩; rw [unhide E]; unfold wrap64; omega)
  · have E : Hid (mtuF n = 1200 + n % 7801) := by show _ = _; unfold mtuF; rw [if_neg hn]
    generalize mtuF n = R at *
    go_enter Try.func14, Try.ntmps14
    go_wp2
    go_ret
    exact ⟨ret_eq E, rfl⟩
theorem ctl_any (n : Int) (h : i64B n) (w : World) : Calls Try.prog 12 #[.int .i64 n] w fun e w' => e = .returned (ptr w.heap.size) ∧ CB w' w.heap.size (cs0 (mtuF n)) ∧ w.grownBy w' none := by
  have hm := mtu_any n h w
  have hn := new_ok (mtuF n) (mtu_fits n) w
  clear h
  generalize mtuF n = m at *
  generalize cs0 m = s at *
  go_enter Try.func12, Try.ntmps12
  go_wp2_with fail
  refine hm.mono ?_
  rintro e W ⟨rfl, rfl⟩
  go_wp2_with fail
  refine hn.mono ?_
  rintro e W1 ⟨rfl, h1, g1⟩
  go_wp2_with fail
  go_ret
  exact ⟨rfl, h1, g1⟩

theorem Try.sizeR : (Try.prog.info? 34).map (·.size) = some 7 := by kernel_rfl
theorem rnew_any (m : Int) (h : fitsF m) (w : World) : Calls Try.prog 13 #[.int .i64 m] w fun e w' => e = .returned (.agg (rcc (cs0 m))) ∧ w.grownBy w' none := by
  obtain ⟨m1, m2⟩ := h
  have E : Hid (rcc (cs0 m) = #[.int .i64 m, .int .i64 0, .int .i64 0, .int .i64 (firstF m), .int .i64 4611686018427387903, .int .i64 0, .int .i64 (-1)]) := rfl
  have hC : (10 * m ≤ 14720 ∧ firstF m = 10 * m) ∨ (14720 < 10 * m ∧ 2 * m ≤ 14720 ∧ firstF m = 14720) ∨ (14720 < 2 * m ∧ firstF m = 2 * m) := by unfold firstF; omega
  have F := hide (And.intro (Blk.new w #[.int .i64 m, .int .i64 0, .int .i64 0, .int .i64 (firstF m), .int .i64 4611686018427387903, .int .i64 0, .int .i64 (-1)] 34) (World.grownBy_alloc w (.cells #[.int .i64 m, .int .i64 0, .int .i64 0, .int .i64 (firstF m), .int .i64 4611686018427387903, .int .i64 0, .int .i64 (-1)] 34) none))
  generalize rcc (cs0 m) = A at *
  generalize firstF m = S at *
  rcases hC with ⟨h1, h2⟩ | ⟨h1, h3, h2⟩ | ⟨h1, h2⟩
  all_goals
    subst h2
    go_enter Try.func13, Try.ntmps13
    go_wp2
    refine bodyPost_ret (results_cell_row rfl _ _ w.heap.size 34 _ (0, 0) _ rfl (unhide F).1 Try.underlying34 rfl Try.sizeR) rfl ?_
    exact ⟨by rw [unhide E], (unhide F).2⟩
end Go.Proofs.Ytgmnlhbfhdgidaa
