/- reach, newCurve, goOn, target, win; the document's Waits. -/
import Derived.Test.YthpnbajhogoinaaIH
import Derived.LoopIn
import Derived.Deep.CutRange
namespace Go.Proofs.Ythpnbajhogoinaa
open Go.RowKit Fl
set_option linter.unusedVariables false
set_option maxRecDepth 100000
set_option maxHeartbeats 4000000
attribute [local go_sem] run_store_float

theorem sg_nat (i x : Nat) : sg (i : Int) x = x := by unfold sg; rw [decide_eq_false (by omega), word_f]
/-- Where the answer turns. -/
theorem turns {h m i : Nat} (hm : 1200 ≤ m ∧ m ≤ 9000) (hh : h ≤ I 1099511627776) (hi : i ≤ D51) : h ≤ cubeW i m ↔ kOf h m ≤ i := by
  obtain ⟨a, b, c⟩ := kOf_spec hm hh
  constructor
  · intro k
    rcases Nat.lt_or_ge i (kOf h m) with d | d
    · have := c i d; omega
    · exact d
  · intro k
    exact Nat.le_trans a (cubeW_mono hi hm.2 k (Nat.le_refl _))

theorem reach_any (h m : Nat) (hm : 1200 ≤ m ∧ m ≤ 9000) (hh : h ≤ I 1099511627776) (w : World) : Calls Try.prog 53 #[fv h, .int .i64 (m : Int)] w fun e w' => e = .returned (.int .i64 (kOf h m : Int)) ∧ w' = w := by
  have hhi : h < inf := Nat.lt_of_le_of_lt hh (I_lt (by decide))
  have CU : Hid (∀ i : Nat, i ≤ 1125899906842624 → Calls Try.prog 54 #[.int .i64 (i : Int), .int .i64 (m : Int)] w fun e w' => e = .returned (fv (cubeW i m)) ∧ w' = w) := fun i hi => by
    have := cube_any (i : Int) (by rw [Int.natAbs_natCast]; unfold D51; omega) m hm.2 w
    rwa [sg_nat, Int.natAbs_natCast] at this
  have G : Hid (∀ i : Nat, i ≤ 1125899906842624 → (FloatKind.f64.format.order (cubeW i m) h == some .gt || FloatKind.f64.format.order (cubeW i m) h == some .eq) = decide (kOf h m ≤ i)) := fun i hi => by
    have ci := cube_lt (d := i) (by unfold D51; omega) hm.2
    have tu := turns (i := i) hm hh (by unfold D51; omega)
    rw [ogt ci hhi, oeq ci hhi]
    by_cases c : h ≤ cubeW i m
    · rw [decide_eq_true (tu.1 c)]
      rcases Nat.lt_or_eq_of_le c with d | d
      · rw [decide_eq_true d]; rfl
      · rw [decide_eq_true d.symm]; simp
    · rw [decide_eq_false (fun k => c (tu.2 k)), decide_eq_false (by omega), decide_eq_false (by omega)]; rfl
  have K2 := (kOf_spec hm hh).2.1
  clear hm hh hhi
  generalize kOf h m = K at *
  generalize (m : Int) = mi at *
  go_enter Try.func53, Try.ntmps53
  go_wp2
  go_loopw [5, 6] (fun s5 s6 wr => ∃ (lo hi : Nat), s5 = .int .i64 lo ∧ s6 = .int .i64 hi ∧ lo ≤ K ∧ K ≤ hi ∧ hi ≤ 1125899906842624 ∧ wr = w) (fun a b _ => (intOf b - intOf a).toNat)
  case atStart => exact ⟨0, 1125899906842624, rfl, rfl, by omega, by omega, Nat.le_refl _, rfl⟩
  case round =>
    obtain ⟨lo, hi, rfl, rfl, h1, h2, h3, hW⟩ := hrel
    subst hW
    by_cases hlt : lo < hi
    · have hc := unhide CU ((lo + hi) / 2) (by omega)
      have hg := unhide G ((lo + hi) / 2) (by omega)
      generalize cubeW ((lo + hi) / 2) m = c at *
      rw [show (((lo + hi) / 2 : Nat) : Int) = ((lo : Int) + (hi : Int)) / 2 by omega] at hc
      have hlz : (lo : Int) < (hi : Int) := by omega
      have hsm : (lo : Int) + (hi : Int) < 9223372036854775808 := by omega
      have H := hide (And.intro h1 (And.intro h2 (And.intro h3 hlt)))
      clear h1 h2 h3 hlt K2 CU G
      by_cases hp : K ≤ (lo + hi) / 2
      · rw [decide_eq_true hp] at hg
        have HP := hide hp
        clear hp
        go_wp2_with (refine hc.mono ?_; rintro e w' ⟨rfl, hW⟩; replace hW := hW.symm; subst hW)
        go_roundw
        case rel =>
          obtain ⟨h1, h2, h3, hlt⟩ := unhide H
          exact ⟨lo, (lo + hi) / 2, rfl, by rw [show ((lo : Int) + (hi : Int)) / 2 = (((lo + hi) / 2 : Nat) : Int) by omega], h1, unhide HP, by omega, trivial⟩
        case measure => simp [intOf]; omega
      · rw [decide_eq_false hp] at hg
        have HP := hide hp
        clear hp
        go_wp2_with (refine hc.mono ?_; rintro e w' ⟨rfl, hW⟩; replace hW := hW.symm; subst hW)
        go_roundw
        case rel =>
          obtain ⟨h1, h2, h3, hlt⟩ := unhide H
          have hp := unhide HP
          exact ⟨(lo + hi) / 2 + 1, hi, by rw [show ((lo : Int) + (hi : Int)) / 2 + 1 = (((lo + hi) / 2 + 1 : Nat) : Int) by omega], rfl, by omega, h2, h3, trivial⟩
        case measure => simp [intOf]; omega
    · obtain rfl : hi = lo := by omega
      obtain rfl : hi = K := by omega
      go_wp2
      go_ret
      exact ⟨rfl, rfl⟩

theorem waits_any (h m : Nat) (hm : 1200 ≤ m ∧ m ≤ 9000) (hh : h ≤ I 1099511627776) (w : World) : Calls Try.prog 48 #[fv h, .int .i64 (m : Int)] w fun e w' => e = .returned (.int .i64 (kOf h m : Int)) ∧ w' = w := by
  have hhi : h < inf := Nat.lt_of_le_of_lt hh (I_lt (by decide))
  have CU : Hid (∀ i : Nat, i ≤ 1125899906842624 → Calls Try.prog 45 #[.int .i64 (i : Int), .int .i64 (m : Int)] w fun e w' => e = .returned (fv (cubeW i m)) ∧ w' = w) := fun i hi => by
    have := rcube_any (i : Int) (by rw [Int.natAbs_natCast]; unfold D51; omega) m hm.2 w
    rwa [sg_nat, Int.natAbs_natCast] at this
  have G : Hid (∀ i : Nat, i ≤ 1125899906842624 → (FloatKind.f64.format.order (cubeW i m) h == some .lt) = decide (i < kOf h m)) := fun i hi => by
    have ci := cube_lt (d := i) (by unfold D51; omega) hm.2
    have tu := turns (i := i) hm hh (by unfold D51; omega)
    rw [olt ci hhi]
    by_cases c : h ≤ cubeW i m
    · have := tu.1 c
      rw [decide_eq_false (show ¬ i < kOf h m by omega), decide_eq_false (show ¬ cubeW i m < h by omega)]
    · have : ¬ kOf h m ≤ i := fun k => c (tu.2 k)
      rw [decide_eq_true (show i < kOf h m by omega), decide_eq_true (show cubeW i m < h by omega)]
  have K2 := (kOf_spec hm hh).2.1
  clear hm hh hhi
  generalize kOf h m = K at *
  generalize (m : Int) = mi at *
  go_enter Try.func48, Try.ntmps48
  go_wp2
  go_loopw [5, 6] (fun s5 s6 wr => ∃ (lo hi : Nat), s5 = .int .i64 lo ∧ s6 = .int .i64 hi ∧ lo ≤ K ∧ K ≤ hi ∧ hi ≤ 68719476736 ∧ wr = w) (fun a b _ => (intOf b - intOf a).toNat)
  case atStart => exact ⟨0, 68719476736, rfl, rfl, by omega, by omega, Nat.le_refl _, rfl⟩
  case round =>
    obtain ⟨lo, hi, rfl, rfl, h1, h2, h3, hW⟩ := hrel
    subst hW
    by_cases hlt : lo < hi
    · have hc := unhide CU (lo + (hi - lo) / 2) (by omega)
      have hg := unhide G (lo + (hi - lo) / 2) (by omega)
      generalize cubeW (lo + (hi - lo) / 2) m = c at *
      rw [show ((lo + (hi - lo) / 2 : Nat) : Int) = (lo : Int) + ((hi : Int) - (lo : Int)) / 2 by omega] at hc
      have hlz : (lo : Int) < (hi : Int) := by omega
      have hsm : (hi : Int) < 9223372036854775808 := by omega
      have hl0 : (0 : Int) ≤ (lo : Int) := by omega
      have H := hide (And.intro h1 (And.intro h2 (And.intro h3 hlt)))
      clear h1 h2 h3 hlt K2 CU G
      by_cases hp : K ≤ lo + (hi - lo) / 2
      · rw [decide_eq_false (show ¬ lo + (hi - lo) / 2 < K by omega)] at hg
        have HP := hide hp
        clear hp
        go_wp2_with (refine hc.mono ?_; rintro e w' ⟨rfl, hW⟩; replace hW := hW.symm; subst hW)
        go_roundw
        case rel =>
          obtain ⟨h1, h2, h3, hlt⟩ := unhide H
          exact ⟨lo, lo + (hi - lo) / 2, rfl, by rw [show (lo : Int) + ((hi : Int) - (lo : Int)) / 2 = ((lo + (hi - lo) / 2 : Nat) : Int) by omega], h1, unhide HP, by omega, trivial⟩
        case measure => simp [intOf]; omega
      · rw [decide_eq_true (show lo + (hi - lo) / 2 < K by omega)] at hg
        have HP := hide hp
        clear hp
        go_wp2_with (refine hc.mono ?_; rintro e w' ⟨rfl, hW⟩; replace hW := hW.symm; subst hW)
        go_roundw
        case rel =>
          obtain ⟨h1, h2, h3, hlt⟩ := unhide H
          have hp := unhide HP
          exact ⟨lo + (hi - lo) / 2 + 1, hi, by rw [show (lo : Int) + ((hi : Int) - (lo : Int)) / 2 + 1 = ((lo + (hi - lo) / 2 + 1 : Nat) : Int) by omega], rfl, by omega, h2, h3, trivial⟩
        case measure => simp [intOf]; omega
    · obtain rfl : hi = lo := by omega
      obtain rfl : hi = K := by omega
      go_wp2
      go_ret
      exact ⟨rfl, rfl⟩
end Go.Proofs.Ythpnbajhogoinaa
