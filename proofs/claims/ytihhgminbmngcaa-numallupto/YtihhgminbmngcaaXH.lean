import Derived.Test.YtihhgminbmngcaaXG
namespace Go.Proofs.Ytihhgminbmngcaa
open Go.RowKit
set_option linter.unusedVariables false
set_option maxRecDepth 100000

theorem ownsRow_open {w : World} {base : Nat} {e : TypeId} {v : Value} {n : Nat} {xs : List Value} (h : w.ownsRow base e 1 v n xs) (hn : n ≠ 0) : ∃ g cap, v = .slice (some ⟨g, 0, none⟩) n cap ∧ base ≤ g ∧ g < w.heap.size ∧ n ≤ cap ∧ cap ≤ maxLen := by
  have hl := h.lt
  rcases h.2 with ⟨_, h0⟩ | ⟨g, cap, cur, rfl, hb, hg, hnc, hm, _⟩
  · exact absurd h0 hn
  · exact ⟨g, cap, rfl, hb, (hl g rfl).2, hnc, hm⟩

theorem layF_cons (v : Int) (m : Nat) (c : Int) (hc : markF (m + 1) = c) : layF v (m + 1) = (v / 256 ^ m % 256 + c) :: dig v m := by
  simp only [layF, dig, hc]

end Go.Proofs.Ytihhgminbmngcaa
