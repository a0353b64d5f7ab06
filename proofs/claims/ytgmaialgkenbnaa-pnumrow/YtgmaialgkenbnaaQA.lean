/- Layer 3: numbers cut short: the little functions. -/
import Derived.WalkKit
import Derived.Below
import Derived.Test.YtgmaialgkenbnaaRows
namespace Go.Proofs.Ytgmaialgkenbnaa
open Go.RowKit
set_option linter.unusedVariables false
set_option maxRecDepth 100000

theorem hide {p : Prop} (h : p) : Hid p := h
theorem unhide {p : Prop} (h : Hid p) : p := h
theorem ret_int {k : IntKind} {a b : Int} (h : a = b) : Ending.returned (.int k a) = .returned (.int k b) := by rw [h]
theorem ret_bool {a b : Bool} (h : a = b) : Ending.returned (.bool a) = .returned (.bool b) := by rw [h]

/-- 2^(8 width). -/
def st (w : Int) : Int := if w = 1 then 256 else if w = 2 then 65536 else if w = 3 then 16777216 else 4294967296

/-- Width. -/
def widthF (n a : Int) : Int × Int :=
  if a < -1 ∨ n ≤ a ∨ 4611686018427387903 < n then (0, 1)
  else if n - a ≤ 128 then (1, 0) else if n - a ≤ 32768 then (2, 0) else if n - a ≤ 8388608 then (3, 0) else if n - a ≤ 2147483648 then (4, 0) else (0, 30)

/-- Cut. -/
def cutF (n w : Int) : Int × Int :=
  if n < 0 ∨ 4611686018427387903 < n ∨ w < 1 ∨ 4 < w then (0, 1) else (n % st w, 0)

theorem code_any (e : Int) (w : World) (h0 : 0 ≤ e ∧ e < 4294967296) :
    Calls Try.prog 12 #[.int .i64 e] w fun r w' => r = .returned (.int .i64 e) ∧ w' = w := by
  go_enter Try.func12, Try.ntmps12
  go_wp2
  go_ret
  exact ⟨rfl, rfl⟩

theorem isNumber_any (n : Int) (w : World) :
    Calls Try.prog 20 #[.int .i64 n] w fun r w' => r = .returned (.bool (decide (0 ≤ n ∧ n ≤ 4611686018427387903))) ∧ w' = w := by
  go_enter Try.func20, Try.ntmps20
  go_wp2
  all_goals go_ret
  all_goals exact ⟨ret_bool (by simp; try omega), rfl⟩

theorem isWidth_any (n : Int) (w : World) :
    Calls Try.prog 21 #[.int .i64 n] w fun r w' => r = .returned (.bool (decide (1 ≤ n ∧ n ≤ 4))) ∧ w' = w := by
  go_enter Try.func21, Try.ntmps21
  go_wp2
  all_goals go_ret
  all_goals exact ⟨ret_bool (by simp; try omega), rfl⟩

theorem stretch_any (n : Int) (w : World) (h1 : 1 ≤ n ∧ n ≤ 4) :
    Calls Try.prog 18 #[.int .i64 n] w fun r w' => r = .returned (.int .i64 (st n)) ∧ w' = w := by
  obtain rfl | rfl | rfl | rfl : n = 1 ∨ n = 2 ∨ n = 3 ∨ n = 4 := by omega
  all_goals
    go_enter Try.func18, Try.ntmps18
    go_wp2
    go_ret
    exact ⟨ret_int (by rfl), rfl⟩

/-- The law's own: 1 for a width that may not be. -/
def lst (n : Int) : Int := if n = 1 then 256 else if n = 2 then 65536 else if n = 3 then 16777216 else if n = 4 then 4294967296 else 1

theorem lawStretch_any (n : Int) (w : World) :
    Calls Try.prog 17 #[.int .i64 n] w fun r w' => r = .returned (.int .i64 (lst n)) ∧ w' = w := by
  obtain rfl | rfl | rfl | rfl | ⟨h1, h2, h3, h4⟩ : n = 1 ∨ n = 2 ∨ n = 3 ∨ n = 4 ∨ (¬ n = 1 ∧ ¬ n = 2 ∧ ¬ n = 3 ∧ ¬ n = 4) := by omega
  iterate 4
    · go_enter Try.func17, Try.ntmps17
      go_wp2
      go_ret
      exact ⟨ret_int (by rfl), rfl⟩
  · have e : lst n = 1 := by unfold lst; simp [h1, h2, h3, h4]
    rw [e]
    go_enter Try.func17, Try.ntmps17
    go_wp2
    go_ret
    exact ⟨rfl, rfl⟩

theorem refStretch_1 (m : Nat) (w : World) (h1 : 1 ≤ m ∧ m ≤ 4) :
    Calls Try.prog 19 #[.int .i64 m] w fun r w' => r = .returned (.int .i64 (256 ^ m)) ∧ w' = w := by
  have HM := hide h1
  clear h1
  go_enter Try.func19, Try.ntmps19
  go_wp2
  go_loopw [3, 4] (fun s i wr => ∃ k : Nat, k ≤ m ∧ i = .int .i64 k ∧ s = .int .i64 (256 ^ k) ∧ wr = w) (fun _ i _ => m - (intOf i).toNat)
  case atStart => exact ⟨0, by omega, rfl, rfl, rfl⟩
  case round =>
    obtain ⟨k, hk, rfl, rfl, rfl⟩ := hrel
    have hm := unhide HM
    by_cases hlt : k < m
    · have hw : IntKind.i64.wrap (256 * 256 ^ k) = 256 ^ (k + 1) := by
        obtain rfl | rfl | rfl | rfl : k = 0 ∨ k = 1 ∨ k = 2 ∨ k = 3 := by omega
        all_goals rfl
      have hkm : (k : Int) < (m : Int) := by omega
      generalize (256 : Int) ^ k = p at *
      generalize hp1 : (256 : Int) ^ (k + 1) = p1 at *
      have HP := hide hp1
      clear hp1
      have HL := hide hlt
      clear hlt hk
      go_wp2
      exact ⟨⟨k + 1, unhide HL, by go_num, by rw [← unhide HP]; exact ⟨rfl, trivial⟩⟩, by simp [intOf]; have := unhide HL; omega⟩
    · obtain rfl : k = m := by omega
      go_wp2
      go_ret
      exact ⟨rfl, rfl⟩

theorem refStretch_any (n : Int) (w : World) (h1 : 1 ≤ n ∧ n ≤ 4) :
    Calls Try.prog 19 #[.int .i64 n] w fun r w' => r = .returned (.int .i64 (st n)) ∧ w' = w := by
  obtain rfl | rfl | rfl | rfl : n = 1 ∨ n = 2 ∨ n = 3 ∨ n = 4 := by omega
  · exact refStretch_1 1 w (by omega)
  · exact refStretch_1 2 w (by omega)
  · exact refStretch_1 3 w (by omega)
  · exact refStretch_1 4 w (by omega)

theorem width_bad (n a : Int) (w : World) (hb : a < -1 ∨ n ≤ a ∨ 4611686018427387903 < n) :
    Calls Try.prog 10 #[.int .i64 n, .int .i64 a] w fun r w' => r = .returned (.tuple #[.int .i64 0, .int .i64 1]) ∧ w' = w := by
  go_enter Try.func10, Try.ntmps10
  go_wp2_with fail
  all_goals go_ret2
  all_goals exact ⟨rfl, rfl⟩

theorem refWidth_bad (n a : Int) (w : World) (hb : a < -1 ∨ n ≤ a ∨ 4611686018427387903 < n) :
    Calls Try.prog 11 #[.int .i64 n, .int .i64 a] w fun r w' => r = .returned (.tuple #[.int .i64 0, .int .i64 1]) ∧ w' = w := by
  go_enter Try.func11, Try.ntmps11
  go_wp2_with fail
  all_goals go_ret2
  all_goals exact ⟨rfl, rfl⟩

/-- How wide the way is: 5 where four bytes do not suffice. -/
def wayF (d : Int) : Nat := if d ≤ 128 then 1 else if d ≤ 32768 then 2 else if d ≤ 8388608 then 3 else if d ≤ 2147483648 then 4 else 5

theorem widthF_way (n a : Int) (h : ¬ (a < -1 ∨ n ≤ a ∨ 4611686018427387903 < n)) : widthF n a = if wayF (n - a) ≤ 4 then ((wayF (n - a) : Int), 0) else (0, 30) := by
  unfold widthF wayF
  rw [if_neg h]
  generalize n - a = d
  (repeat' split) <;> first | rfl | omega

theorem width_good (n a : Int) (w : World) (hb : ¬ (a < -1 ∨ n ≤ a ∨ 4611686018427387903 < n)) (q : Int × Int) (hq : q = widthF n a) :
    Calls Try.prog 10 #[.int .i64 n, .int .i64 a] w fun r w' => r = .returned (.tuple #[.int .i64 q.1, .int .i64 q.2]) ∧ w' = w := by
  have HQ := hide (hq.trans (widthF_way n a hb))
  clear hq
  have hb1 : -1 ≤ a := by omega
  have hb2 : a < n := by omega
  have hb3 : n ≤ 4611686018427387903 := by omega
  clear hb
  go_enter Try.func10, Try.ntmps10
  go_wp2_with fail
  go_loopw [7] (fun i wr => ∃ k : Nat, 1 ≤ k ∧ k ≤ wayF (n - a) ∧ i = .int .i64 k ∧ wr = w) (fun i _ => 5 - (intOf i).toNat)
  case atStart => exact ⟨1, Nat.le_refl _, by unfold wayF; (repeat' split) <;> omega, rfl, rfl⟩
  case round =>
    obtain ⟨k, hk1, hk2, rfl, rfl⟩ := hrel
    have hw5 : wayF (n - a) ≤ 5 := by unfold wayF; (repeat' split) <;> omega
    obtain rfl | rfl | rfl | rfl | rfl : k = 1 ∨ k = 2 ∨ k = 3 ∨ k = 4 ∨ k = 5 := by omega
    · have hs := stretch_any 1 wr (by omega)
      rw [show st 1 = 256 from rfl] at hs
      by_cases hd : n - a ≤ 128
      · have e : wayF (n - a) = 1 := by unfold wayF at *; (repeat' split at hk2) <;> (repeat' split) <;> omega
        rw [e] at HQ
        obtain rfl := unhide HQ
        clear hk2 hw5 HQ e
        go_wp2_with (refine hs.mono ?_; rintro e w' ⟨rfl, hw'⟩; subst w')
        all_goals go_ret2
        all_goals exact ⟨rfl, rfl⟩
      · have HK := hide (show 2 ≤ wayF (n - a) by unfold wayF at *; (repeat' split at hk2) <;> (repeat' split) <;> omega)
        clear hk2 hw5
        go_wp2_with (refine hs.mono ?_; rintro e w' ⟨rfl, hw'⟩; subst w')
        exact ⟨⟨2, by omega, unhide HK, rfl, trivial⟩, by simp [intOf]⟩
    · have hs := stretch_any 2 wr (by omega)
      rw [show st 2 = 65536 from rfl] at hs
      by_cases hd : n - a ≤ 32768
      · have e : wayF (n - a) = 2 := by unfold wayF at *; (repeat' split at hk2) <;> (repeat' split) <;> omega
        rw [e] at HQ
        obtain rfl := unhide HQ
        clear hk2 hw5 HQ e
        go_wp2_with (refine hs.mono ?_; rintro e w' ⟨rfl, hw'⟩; subst w')
        all_goals go_ret2
        all_goals exact ⟨rfl, rfl⟩
      · have HK := hide (show 3 ≤ wayF (n - a) by unfold wayF at *; (repeat' split at hk2) <;> (repeat' split) <;> omega)
        clear hk2 hw5
        go_wp2_with (refine hs.mono ?_; rintro e w' ⟨rfl, hw'⟩; subst w')
        exact ⟨⟨3, by omega, unhide HK, rfl, trivial⟩, by simp [intOf]⟩
    · have hs := stretch_any 3 wr (by omega)
      rw [show st 3 = 16777216 from rfl] at hs
      by_cases hd : n - a ≤ 8388608
      · have e : wayF (n - a) = 3 := by unfold wayF at *; (repeat' split at hk2) <;> (repeat' split) <;> omega
        rw [e] at HQ
        obtain rfl := unhide HQ
        clear hk2 hw5 HQ e
        go_wp2_with (refine hs.mono ?_; rintro e w' ⟨rfl, hw'⟩; subst w')
        all_goals go_ret2
        all_goals exact ⟨rfl, rfl⟩
      · have HK := hide (show 4 ≤ wayF (n - a) by unfold wayF at *; (repeat' split at hk2) <;> (repeat' split) <;> omega)
        clear hk2 hw5
        go_wp2_with (refine hs.mono ?_; rintro e w' ⟨rfl, hw'⟩; subst w')
        exact ⟨⟨4, by omega, unhide HK, rfl, trivial⟩, by simp [intOf]⟩
    · have hs := stretch_any 4 wr (by omega)
      rw [show st 4 = 4294967296 from rfl] at hs
      by_cases hd : n - a ≤ 2147483648
      · have e : wayF (n - a) = 4 := by unfold wayF at *; (repeat' split at hk2) <;> (repeat' split) <;> omega
        rw [e] at HQ
        obtain rfl := unhide HQ
        clear hk2 hw5 HQ e
        go_wp2_with (refine hs.mono ?_; rintro e w' ⟨rfl, hw'⟩; subst w')
        all_goals go_ret2
        all_goals exact ⟨rfl, rfl⟩
      · have HK := hide (show 5 ≤ wayF (n - a) by unfold wayF at *; (repeat' split at hk2) <;> (repeat' split) <;> omega)
        clear hk2 hw5
        go_wp2_with (refine hs.mono ?_; rintro e w' ⟨rfl, hw'⟩; subst w')
        exact ⟨⟨5, by omega, unhide HK, rfl, trivial⟩, by simp [intOf]⟩
    · have e : wayF (n - a) = 5 := by omega
      rw [e] at HQ
      obtain rfl := unhide HQ
      clear hk2 hw5 HQ e
      go_wp2_with fail
      go_ret2
      exact ⟨rfl, rfl⟩

theorem refWidth_good (n a : Int) (w : World) (hb : ¬ (a < -1 ∨ n ≤ a ∨ 4611686018427387903 < n)) (q : Int × Int) (hq : q = widthF n a) :
    Calls Try.prog 11 #[.int .i64 n, .int .i64 a] w fun r w' => r = .returned (.tuple #[.int .i64 q.1, .int .i64 q.2]) ∧ w' = w := by
  have HQ := hide (hq.trans (widthF_way n a hb))
  clear hq
  have hb1 : -1 ≤ a := by omega
  have hb2 : a < n := by omega
  have hb3 : n ≤ 4611686018427387903 := by omega
  clear hb
  go_enter Try.func11, Try.ntmps11
  go_wp2_with fail
  go_loopw [7] (fun i wr => ∃ k : Nat, 1 ≤ k ∧ k ≤ wayF (n - a) ∧ i = .int .i64 k ∧ wr = w) (fun i _ => 5 - (intOf i).toNat)
  case atStart => exact ⟨1, Nat.le_refl _, by unfold wayF; (repeat' split) <;> omega, rfl, rfl⟩
  case round =>
    obtain ⟨k, hk1, hk2, rfl, rfl⟩ := hrel
    have hw5 : wayF (n - a) ≤ 5 := by unfold wayF; (repeat' split) <;> omega
    obtain rfl | rfl | rfl | rfl | rfl : k = 1 ∨ k = 2 ∨ k = 3 ∨ k = 4 ∨ k = 5 := by omega
    · have hs := refStretch_any 1 wr (by omega)
      rw [show st 1 = 256 from rfl] at hs
      by_cases hd : n - a ≤ 128
      · have e : wayF (n - a) = 1 := by unfold wayF at *; (repeat' split at hk2) <;> (repeat' split) <;> omega
        rw [e] at HQ
        obtain rfl := unhide HQ
        clear hk2 hw5 HQ e
        go_wp2_with (refine hs.mono ?_; rintro e w' ⟨rfl, hw'⟩; subst w')
        all_goals go_ret2
        all_goals exact ⟨rfl, rfl⟩
      · have HK := hide (show 2 ≤ wayF (n - a) by unfold wayF at *; (repeat' split at hk2) <;> (repeat' split) <;> omega)
        clear hk2 hw5
        go_wp2_with (refine hs.mono ?_; rintro e w' ⟨rfl, hw'⟩; subst w')
        exact ⟨⟨2, by omega, unhide HK, rfl, trivial⟩, by simp [intOf]⟩
    · have hs := refStretch_any 2 wr (by omega)
      rw [show st 2 = 65536 from rfl] at hs
      by_cases hd : n - a ≤ 32768
      · have e : wayF (n - a) = 2 := by unfold wayF at *; (repeat' split at hk2) <;> (repeat' split) <;> omega
        rw [e] at HQ
        obtain rfl := unhide HQ
        clear hk2 hw5 HQ e
        go_wp2_with (refine hs.mono ?_; rintro e w' ⟨rfl, hw'⟩; subst w')
        all_goals go_ret2
        all_goals exact ⟨rfl, rfl⟩
      · have HK := hide (show 3 ≤ wayF (n - a) by unfold wayF at *; (repeat' split at hk2) <;> (repeat' split) <;> omega)
        clear hk2 hw5
        go_wp2_with (refine hs.mono ?_; rintro e w' ⟨rfl, hw'⟩; subst w')
        exact ⟨⟨3, by omega, unhide HK, rfl, trivial⟩, by simp [intOf]⟩
    · have hs := refStretch_any 3 wr (by omega)
      rw [show st 3 = 16777216 from rfl] at hs
      by_cases hd : n - a ≤ 8388608
      · have e : wayF (n - a) = 3 := by unfold wayF at *; (repeat' split at hk2) <;> (repeat' split) <;> omega
        rw [e] at HQ
        obtain rfl := unhide HQ
        clear hk2 hw5 HQ e
        go_wp2_with (refine hs.mono ?_; rintro e w' ⟨rfl, hw'⟩; subst w')
        all_goals go_ret2
        all_goals exact ⟨rfl, rfl⟩
      · have HK := hide (show 4 ≤ wayF (n - a) by unfold wayF at *; (repeat' split at hk2) <;> (repeat' split) <;> omega)
        clear hk2 hw5
        go_wp2_with (refine hs.mono ?_; rintro e w' ⟨rfl, hw'⟩; subst w')
        exact ⟨⟨4, by omega, unhide HK, rfl, trivial⟩, by simp [intOf]⟩
    · have hs := refStretch_any 4 wr (by omega)
      rw [show st 4 = 4294967296 from rfl] at hs
      by_cases hd : n - a ≤ 2147483648
      · have e : wayF (n - a) = 4 := by unfold wayF at *; (repeat' split at hk2) <;> (repeat' split) <;> omega
        rw [e] at HQ
        obtain rfl := unhide HQ
        clear hk2 hw5 HQ e
        go_wp2_with (refine hs.mono ?_; rintro e w' ⟨rfl, hw'⟩; subst w')
        all_goals go_ret2
        all_goals exact ⟨rfl, rfl⟩
      · have HK := hide (show 5 ≤ wayF (n - a) by unfold wayF at *; (repeat' split at hk2) <;> (repeat' split) <;> omega)
        clear hk2 hw5
        go_wp2_with (refine hs.mono ?_; rintro e w' ⟨rfl, hw'⟩; subst w')
        exact ⟨⟨5, by omega, unhide HK, rfl, trivial⟩, by simp [intOf]⟩
    · have e : wayF (n - a) = 5 := by omega
      rw [e] at HQ
      obtain rfl := unhide HQ
      clear hk2 hw5 HQ e
      go_wp2_with fail
      go_ret2
      exact ⟨rfl, rfl⟩

end Go.Proofs.Ytgmaialgkenbnaa
