/- Another base. -/
import Derived.Test.YtdalekjpjnhboaaS5A
namespace Go.Proofs.Ytdalekjpjnhboaa
open Go.RowKit
set_option linter.unusedVariables false
set_option maxHeartbeats 1000000
set_option maxRecDepth 100000

theorem Kp.then {S S' : Nat → Prop} {A B C : World} (h : Kp S A B) (k : Kp S' B C) (hs : ∀ g, g < A.heap.size → S' g → S g) : Kp S A C :=
  ⟨k.os.trans h.os, k.tape.trans h.tape, k.output.trans h.output, Nat.le_trans h.size k.size, fun g hg hn => (k.block g (Nat.lt_of_lt_of_le hg h.size) (fun hS => hn (hs g hg hS))).trans (h.block g hg hn)⟩

section
variable {w W : World} {M : Nat → Prop} {b ba bl : Nat} {vh : Value} {S : Sd}

/-- The same, told from a later world on: what was made between is not the Send's. -/
theorem At.rebase {W1 : World} (h : At w M b ba bl vh W S) (g : W.grownBy W1 none) : At W1 (fun k => (M k ∨ w.heap.size ≤ k) ∧ k < W.heap.size) b ba bl vh W1 S := by
  obtain ⟨va, vl, s1, s2, d, m1, m2⟩ := h.sets
  have h1 := h.grown g
  exact ⟨Kp.refl _ _, h1.blk, ⟨va, vl, s1.keep g, s2.keep g, d, fun k e => .inl ⟨m1 k e, row_lt s1.row k e⟩, fun k e => .inl ⟨m2 k e, row_lt s2.row k e⟩⟩, h1.ring, h.ne, .inl ⟨h.mb, h.blk.lt⟩, .inl ⟨h.ma, setAt_lt s1⟩, .inl ⟨h.ml, setAt_lt s2⟩, fun k e => .inl ⟨h.mh k e, h.ring.lt k e⟩, h.tb⟩
theorem At.unbase {W1 X : World} {n : Nat} (k : Kp M w W1) (h : At W1 (fun k => (M k ∨ w.heap.size ≤ k) ∧ k < n) b ba bl vh X S) : At w M b ba bl vh X S := by
  obtain ⟨va, vl, s1, s2, d, m1, m2⟩ := h.sets
  have e : ∀ {g : Nat}, ((M g ∨ w.heap.size ≤ g) ∧ g < n) ∨ W1.heap.size ≤ g → M g ∨ w.heap.size ≤ g := fun q => by
    rcases q with q | q
    · exact q.1
    · exact .inr (Nat.le_trans k.size q)
  exact ⟨k.then h.kp (fun g hg q => q.1.resolve_right (by omega)), h.blk, ⟨va, vl, s1, s2, d, fun g q => e (m1 g q), fun g q => e (m2 g q)⟩, h.ring, h.ne, e h.mb, e h.ma, e h.ml, fun g q => e (h.mh g q), h.tb⟩

end
end Go.Proofs.Ytdalekjpjnhboaa
