/- Small facts of packets that are written. -/
import Derived.Test.YtnglgedcpmbbjaaK8
namespace Go.Proofs.Ytnglgedcpmbbjaa
open Go.RowKit
set_option linter.unusedVariables false
set_option maxRecDepth 100000

theorem enc_good {p : Pk} (h : encE p = 0) : Good p := by
  rcases encE_cases p with ⟨h1, h2⟩ | ⟨-, h2, -⟩ | ⟨-, -, -, h4⟩
  · exact absurd (h1.symm.trans h) h2
  · omega
  · exact h4
theorem ov_good {p : Pk} (h : Good p) : ovF p = (overP p, 0) := by
  rcases encE_cases p with ⟨h1, h2⟩ | ⟨h1, h2, h3, -⟩ | ⟨h1, h2, h3, h4⟩
  · exact absurd (h1.symm.trans (good_enc h)) h2
  · have := good_enc h; omega
  · rw [← h3, ← h1]
theorem over_in {p : Pk} (good : Good p) : (0 : Int) ≤ overP p ∧ overP p ≤ 60 := by
  have h1 := good.w; have h2 := good.d; have h3 := good.s
  unfold overP; (repeat' split) <;> omega

theorem InB.cut {w : World} {g N : Nat} {l : List Int} (h : InB w (.slice (some ⟨g, 0, none⟩) N N) l) (k : Nat) (hk : k ≤ N) : InB w (.slice (some ⟨g, 0, none⟩) k N) (l.take k) := by
  obtain ⟨a, c, e, hr, h1, h2, h3⟩ := h
  simp only [Value.slice.injEq] at e
  obtain ⟨rfl, rfl, rfl⟩ := e
  have hl : (l.take k).length = k := by simp; omega
  refine ⟨_, _, by rw [hl], ⟨fun x hx => hr.1 x (List.mem_of_mem_take hx), fun hne => ?_⟩, by omega, h2, h3⟩
  obtain ⟨b, off, e, hc⟩ := hr.2 (fun e => by subst e; simp at hne)
  refine ⟨b, off, e, fun i hi => ?_⟩
  rw [hl] at hi
  rw [hc i (by omega)]
  simp [List.getD, hi]
end Go.Proofs.Ytnglgedcpmbbjaa
