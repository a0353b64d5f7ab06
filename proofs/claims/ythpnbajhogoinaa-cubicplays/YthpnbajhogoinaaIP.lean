/- New, ctl, mtu; the document's New. -/
import Derived.Test.YthpnbajhogoinaaIO
namespace Go.Proofs.Ythpnbajhogoinaa
open Go.RowKit Fl
set_option linter.unusedVariables false
set_option maxRecDepth 100000
set_option maxHeartbeats 4000000

theorem new_no (m : Int) (h : ¬ fitsF m) (w : World) : Calls Try.prog 10 #[.int .i64 m] w fun e w' => e = .returned (.tuple #[.pointer none, .int .i64 1]) ∧ w' = w := by
  by_cases n1 : m < 1200
  · go_enter Try.func10, Try.ntmps10
    go_wp2
    go_ret2
    exact ⟨rfl, rfl⟩
  · have n2 : (9000 : Int) < m := by unfold fitsF at h; omega
    go_enter Try.func10, Try.ntmps10
    go_wp2
    go_ret2
    exact ⟨rfl, rfl⟩
theorem takes_ok (m : Int) (h : fitsF m) (w : World) : Calls Try.prog 11 #[.int .i64 m] w fun e w' => e = .returned (.bool true) ∧ w' = w := by
  obtain ⟨m1, m2⟩ := h
  go_enter Try.func11, Try.ntmps11
  go_wp2
  go_ret
  exact ⟨rfl, rfl⟩
theorem takes_no (m : Int) (h : ¬ fitsF m) (w : World) : Calls Try.prog 11 #[.int .i64 m] w fun e w' => e = .returned (.bool false) ∧ w' = w := by
  by_cases n1 : 1200 ≤ m
  · have n2 : ¬ m ≤ 9000 := by unfold fitsF at h; omega
    go_enter Try.func11, Try.ntmps11
    go_wp2
    go_ret
    exact ⟨rfl, rfl⟩
  · go_enter Try.func11, Try.ntmps11
    go_wp2
    go_ret
    exact ⟨rfl, rfl⟩

abbrev i64B (x : Int) : Prop := -9223372036854775808 ≤ x ∧ x ≤ 9223372036854775807
def mtuF (n : Int) : Int := 1200 + (if n < 0 then -(n + 1) else n) % 7801
theorem mtu_fits (n : Int) : fitsF (mtuF n) := by unfold mtuF fitsF; omega
theorem mtu_any (n : Int) (h : i64B n) (w : World) : Calls Try.prog 14 #[.int .i64 n] w fun e w' => e = .returned (.int .i64 (mtuF n)) ∧ w' = w := by
  obtain ⟨n1, n2⟩ := h
  by_cases hn : n < 0
  · have E : Hid (mtuF n = 1200 + (-(n + 1)) % 7801) := by show _ = _; unfold mtuF; rw [if_pos hn]
    generalize mtuF n = R at *
    have h0 : 0 ≤ -(n + 1) := by omega
    have hT : (n + 1).tmod 7801 = -((-(n + 1)) % 7801) := by
      rw [← Int.tmod_eq_emod_of_nonneg h0, Int.neg_tmod, Int.neg_neg]
    have r1 : 0 ≤ (-(n + 1)) % 7801 := by omega
    have r2 : (-(n + 1)) % 7801 < 7801 := by omega
    generalize (-(n + 1)) % 7801 = r at *
    go_enter Try.func14, Try.ntmps14
    go_wp2
    go_ret
    first
      | exact ⟨ret_eq E, rfl⟩
      | (rw [hT]; refine ⟨ret_eq (show R = _ from ?_), rfl⟩; rw [unhide E]; unfold wrap64; omega)
  · have E : Hid (mtuF n = 1200 + n % 7801) := by show _ = _; unfold mtuF; rw [if_neg hn]
    generalize mtuF n = R at *
    go_enter Try.func14, Try.ntmps14
    go_wp2
    go_ret
    exact ⟨ret_eq E, rfl⟩
theorem ctl_any (n : Int) (h : i64B n) (w : World) : Calls Try.prog 12 #[.int .i64 n] w fun e w' => ∃ b, e = .returned (ptr b) ∧ w.heap.size ≤ b ∧ CB w' b (cs0 (mtuF n)) ∧ w.grownBy w' none := by
  have hm := mtu_any n h w
  have hn := new_ok (mtuF n) (mtu_fits n) w
  clear h
  generalize mtuF n = m at *
  generalize cs0 m = s at *
  go_enter Try.func12, Try.ntmps12
  go_wp2_with fail
  refine hm.mono ?_
  rintro e W ⟨rfl, rfl⟩
  go_wp2_with fail
  refine hn.mono ?_
  rintro e W1 ⟨b, rfl, hb, h1, g1⟩
  go_wp2_with fail
  go_ret
  exact ⟨b, rfl, hb, h1, g1⟩
end Go.Proofs.Ythpnbajhogoinaa
