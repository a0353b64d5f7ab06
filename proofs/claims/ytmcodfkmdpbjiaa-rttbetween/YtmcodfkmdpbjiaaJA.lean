/- Spans; an estimator in memory; what a sample leaves, reckoned. -/
import Derived.Test.YtmcodfkmdpbjiaaHA
import Derived.Deep.RegionHeld3
import Derived.Deep.RegionHeldLaw
import Derived.BigRegion
import Derived.BigQuiet
import Derived.WalkKit
namespace Go.Proofs.Ytmcodfkmdpbjiaa
open Go.RowKit
set_option linter.unusedVariables false
set_option maxRecDepth 100000
set_option maxHeartbeats 1000000

abbrev ptr (b : Nat) : Value := .pointer (some ⟨b, 0, none⟩)
abbrev maxT : Int := 1125899906842624
/-- A span, taken into 0 to MaxTime. -/
def sp (x : Int) : Int := min (max x 0) 1125899906842624
theorem sp_b (x : Int) : 0 ≤ sp x ∧ sp x ≤ 1125899906842624 := by unfold sp; omega
theorem sp_sp (x : Int) : sp (sp x) = sp x := by unfold sp; omega

theorem ret_eq {x y : Int} (h : Hid (x = y)) : Ending.returned (.int .i64 y) = Ending.returned (.int .i64 x) := by rw [unhide h]

def adjF (m l d : Int) : Int := if m + d ≤ l then l - d else l
def distF (a b : Int) : Int := max a b - min a b

theorem span_any (x : Int) (w : World) : Calls Try.prog 24 #[.int .i64 x] w fun e w' => e = .returned (.int .i64 (sp x)) ∧ w' = w := by
  by_cases h1 : 0 ≤ x
  · by_cases h2 : x ≤ 1125899906842624
    · have E : Hid (sp x = x) := by show sp x = _; unfold sp; omega
      go_enter Try.func24, Try.ntmps24
      go_wp2
      go_ret
      exact ⟨ret_eq E, rfl⟩
    · have E : Hid (sp x = 1125899906842624) := by show sp x = _; unfold sp; omega
      go_enter Try.func24, Try.ntmps24
      go_wp2
      go_ret
      exact ⟨ret_eq E, rfl⟩
  · have E : Hid (sp x = 0) := by show sp x = _; unfold sp; omega
    go_enter Try.func24, Try.ntmps24
    go_wp2
    go_ret
    exact ⟨ret_eq E, rfl⟩

theorem into_any (x : Int) (w : World) : Calls Try.prog 21 #[.int .i64 x] w fun e w' => e = .returned (.int .i64 (sp x)) ∧ w' = w := by
  by_cases h1 : x < 0
  · have E : Hid (sp x = 0) := by show sp x = _; unfold sp; omega
    go_enter Try.func21, Try.ntmps21
    go_wp2
    go_ret
    exact ⟨ret_eq E, rfl⟩
  · by_cases h2 : (1125899906842624 : Int) < x
    · have E : Hid (sp x = 1125899906842624) := by show sp x = _; unfold sp; omega
      go_enter Try.func21, Try.ntmps21
      go_wp2
      go_ret
      exact ⟨ret_eq E, rfl⟩
    · have E : Hid (sp x = x) := by show sp x = _; unfold sp; omega
      go_enter Try.func21, Try.ntmps21
      go_wp2
      go_ret
      exact ⟨ret_eq E, rfl⟩

abbrev inT (x : Int) : Prop := 0 ≤ x ∧ x ≤ 1125899906842624

theorem adjusted_any (m l d : Int) (hm : inT m) (hl : inT l) (hd : inT d) (w : World) : Calls Try.prog 29 #[.int .i64 m, .int .i64 l, .int .i64 d] w fun e w' => e = .returned (.int .i64 (adjF m l d)) ∧ w' = w := by
  obtain ⟨hm1, hm2⟩ := hm
  obtain ⟨hl1, hl2⟩ := hl
  obtain ⟨hd1, hd2⟩ := hd
  by_cases h1 : m + d ≤ l
  · have E : Hid (adjF m l d = l - d) := by show _ = _; unfold adjF; rw [if_pos h1]
    go_enter Try.func29, Try.ntmps29
    go_wp2
    go_ret
    exact ⟨ret_eq E, rfl⟩
  · have E : Hid (adjF m l d = l) := by show _ = _; unfold adjF; rw [if_neg h1]
    go_enter Try.func29, Try.ntmps29
    go_wp2
    go_ret
    exact ⟨ret_eq E, rfl⟩

theorem distance_any (a b : Int) (ha : inT a) (hb : inT b) (w : World) : Calls Try.prog 30 #[.int .i64 a, .int .i64 b] w fun e w' => e = .returned (.int .i64 (distF a b)) ∧ w' = w := by
  obtain ⟨ha1, ha2⟩ := ha
  obtain ⟨hb1, hb2⟩ := hb
  by_cases h1 : b ≤ a
  · have E : Hid (∀ y, y = a - b → distF a b = y) := by rintro y rfl; show _ = _; unfold distF; omega
    go_enter Try.func30, Try.ntmps30
    go_wp2
    all_goals go_ret
    all_goals exact ⟨ret_eq (E _ (by omega)), rfl⟩
  · have E : Hid (∀ y, y = b - a → distF a b = y) := by rintro y rfl; show _ = _; unfold distF; omega
    go_enter Try.func30, Try.ntmps30
    go_wp2
    all_goals go_ret
    all_goals exact ⟨ret_eq (E _ (by omega)), rfl⟩
end Go.Proofs.Ytmcodfkmdpbjiaa
