import Derived.Test.YtmfbbamaleagiaaDoorXJ
namespace Go.Proofs.YtmfbbamaleagiaaDoor
open Go.RowKit
set_option linter.unusedVariables false
set_option maxRecDepth 100000

/-! Same -/
set_option maxHeartbeats 800000 in
theorem same_ok (a b : Option Addr) (l : List Int) (c1 c2 : Nat) (w : World) (ha : Rd w a l) (hb : Rd w b l) (hm : l.length ≤ maxLen) :
    Calls Tryd.prog 17 #[.slice a l.length c1, .slice b l.length c2] w fun e w' => e = .returned (.bool true) ∧ ∃ n, w' = w.drewN n := by
  have HA := hide ha; have HB := hide hb
  clear ha hb
  unfold maxLen at hm
  go_enter Tryd.func17, Tryd.ntmps17
  go_wp2
  go_loopw [5] (fun i wr => ∃ (k q : Nat), k ≤ l.length ∧ i = .int .i64 k ∧ wr = w.drewN q) (fun i _ => l.length - (intOf i).toNat)
  case atStart => exact ⟨0, 0, Nat.zero_le _, rfl, rfl⟩
  case round =>
    obtain ⟨k, q, hk, rfl, rfl⟩ := hrel
    by_cases hlt : k < l.length
    · have hne : l ≠ [] := by intro e; simp [e] at hlt
      obtain ⟨b1, o1, rfl, h1⟩ := (unhide HA).2 hne
      obtain ⟨b2, o2, rfl, h2⟩ := (unhide HB).2 hne
      have k1 := h1 k hlt
      have k2 := h2 k hlt
      generalize l.getD k 0 = x at k1 k2
      clear h1 h2 hne
      go_wp2
      go_quiet (fail)
      all_goals go_wp2
      go_roundw
      case rel => exact ⟨k + 1, _, by omega, by go_num, rfl⟩
      case measure => simp [intOf]; omega
    · go_wp2
      go_ret
      exact ⟨rfl, _, rfl⟩

/-! Big, by definition -/
theorem bel_drewN {n : Nat} {w w' : World} (h : Below n w w') (q : Nat) : Below n w (w'.drewN q) := ⟨h.os, h.tape, h.output, h.size, h.block⟩
end Go.Proofs.YtmfbbamaleagiaaDoor
