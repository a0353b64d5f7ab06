/- What is so between the rounds of SendBounds. -/
import Derived.Test.YtdalekjpjnhboaaS5Q
import Derived.Test.YtdalekjpjnhboaaS5S
import Derived.Test.YtdalekjpjnhboaaS5V
import Derived.Test.YtdalekjpjnhboaaS5Y
namespace Go.Proofs.Ytdalekjpjnhboaa
open Go.RowKit
set_option linter.unusedVariables false
set_option maxHeartbeats 2000000
set_option maxRecDepth 100000

/-- Another block is written. -/
theorem At.past {X Y : World} {M : Nat → Prop} {b ba bl g : Nat} {vh : Value} {S : Sd} (h : At X M b ba bl vh X S) (hM : ¬ M g) (hg : g < X.heap.size) (k : X.grownBy Y (some g)) : At Y M b ba bl vh Y S := by
  obtain ⟨va, vl, s1, s2, d, m1, m2⟩ := h.sets
  have hb := h.blk.lt
  have e : ∀ {j : Nat}, M j ∨ X.heap.size ≤ j → j < X.heap.size → Y.heap[j]? = X.heap[j]? := fun q hj => k.block _ hj (fun e => by cases e; exact hM (q.resolve_right (by omega)))
  have f : ∀ {j : Nat}, M j ∨ X.heap.size ≤ j → j < X.heap.size → M j ∨ Y.heap.size ≤ j := fun q hj => .inl (q.resolve_right (by omega))
  exact ⟨Kp.refl _ _, (e h.mb hb).trans h.blk, ⟨va, vl, setAt_kept s1 (e h.ma (setAt_lt s1)) (fun j q => e (m1 j q) (row_lt s1.row j q)), setAt_kept s2 (e h.ml (setAt_lt s2)) (fun j q => e (m2 j q) (row_lt s2.row j q)), d, fun j q => f (m1 j q) (row_lt s1.row j q), fun j q => f (m2 j q) (row_lt s2.row j q)⟩, h.ring.kept (fun j q => e (h.mh j q) (h.ring.lt j q)), h.ne, f h.mb hb, f h.ma (setAt_lt s1), f h.ml (setAt_lt s2), fun j q => f (h.mh j q) (h.ring.lt j q), h.tb⟩

/-- What is so between rounds. -/
structure BI (w : World) (bw b : Nat) (cap : Int) (k : Nat) (lim : Int) (X : World) (S : Sd) (va vl : Value) : Prop where
  ex : ∃ M ba bl vh, At X M b ba bl vh X S ∧ (∀ g, M g → w.heap.size ≤ g) ∧ (∀ g, va.ownBlock = some g → ¬ M g) ∧ (∀ g, vl.ownBlock = some g → ¬ M g) ∧ ¬ M bw
  bl : Blk X bw (viewC S va vl) 36
  ra : Row X va S.A
  rl : Row X vl S.L
  ok : SdOk S
  cap : S.cap = cap
  tot : wr S ≤ 65536 * (k : Int)
  li : S.sent ≤ lim
  l0 : 0 ≤ lim
  gr : w.grownBy X none
  nw : w.heap.size ≤ bw
  ne : b ≠ bw

theorem put10_over {X : World} {r : Nat} {t : TypeId} {z0 z1 z2 z3 z4 z5 z6 z7 z8 z9 : Value} (h : Blk X r #[z0, z1, z2, z3, z4, z5, z6, z7, z8, z9] t) (v0 v1 v2 v3 v4 v5 v6 v7 v8 v9 : Value) : Blk (put10 X r v0 v1 v2 v3 v4 v5 v6 v7 v8 v9) r #[v0, v1, v2, v3, v4, v5, v6, v7, v8, v9] t ∧ X.grownBy (put10 X r v0 v1 v2 v3 v4 v5 v6 v7 v8 v9) (some r) := by
  refine ⟨?_, ?_⟩
  · have h0 : Blk _ r #[v0, z1, z2, z3, z4, z5, z6, z7, z8, z9] t := h.setC 0 v0
    have h1 : Blk _ r #[v0, v1, z2, z3, z4, z5, z6, z7, z8, z9] t := h0.setC 1 v1
    have h2 : Blk _ r #[v0, v1, v2, z3, z4, z5, z6, z7, z8, z9] t := h1.setC 2 v2
    have h3 : Blk _ r #[v0, v1, v2, v3, z4, z5, z6, z7, z8, z9] t := h2.setC 3 v3
    have h4 : Blk _ r #[v0, v1, v2, v3, v4, z5, z6, z7, z8, z9] t := h3.setC 4 v4
    have h5 : Blk _ r #[v0, v1, v2, v3, v4, v5, z6, z7, z8, z9] t := h4.setC 5 v5
    have h6 : Blk _ r #[v0, v1, v2, v3, v4, v5, v6, z7, z8, z9] t := h5.setC 6 v6
    have h7 : Blk _ r #[v0, v1, v2, v3, v4, v5, v6, v7, z8, z9] t := h6.setC 7 v7
    have h8 : Blk _ r #[v0, v1, v2, v3, v4, v5, v6, v7, v8, z9] t := h7.setC 8 v8
    have h9 : Blk _ r #[v0, v1, v2, v3, v4, v5, v6, v7, v8, v9] t := h8.setC 9 v9
    exact h9
  · exact grown_at (grown_at (grown_at (grown_at (grown_at (grown_at (grown_at (grown_at (grown_at (grown_at (grown_any (grown_self X none) r) 0 v0) 1 v1) 2 v2) 3 v3) 4 v4) 5 v5) 6 v6) 7 v7) 8 v8) 9 v9

theorem bi_next {w X X1 Y Y2 Y3 : World} {M : Nat → Prop} {bw b ba bl k : Nat} {cap lim lim' f' : Int} {nn : Bool} {S S' : Sd} {va vl va' vl' vh : Value} (hI : BI w bw b cap k lim X S va vl) (g1 : X.grownBy X1 none) (hA : At X1 (fun k => (M k ∨ X.heap.size ≤ k) ∧ k < X.heap.size) b ba bl vh Y S') (hMw : ∀ g, M g → w.heap.size ≤ g) (hmb : ¬ M bw) (hst : Stp S S' lim lim' f' nn)
    (gW : Y.grownBy Y2 none) (g3 : Y2.grownBy Y3 none) (r1 : Row Y2 va' S'.A) (r2 : Row Y2 vl' S'.L) (f1 : Fresh Y va') (f2 : Fresh Y vl') (bw3 : Blk Y3 bw (viewC S va vl) 36) :
    BI w bw b cap (k + 1) lim' (put10 Y3 bw (.int .i64 (wr S')) (.int .i64 S'.sent) (.int .i64 S'.base) va' vl' (.bool S'.ended) (.bool (decide (S'.fin = 1) || decide (S'.fin = 3))) (.bool (decide (S'.fin = 3))) (.bool S'.stopped) (.bool (doneB S'))) S' va' vl' := by
  have hP := put10_over bw3 (.int .i64 (wr S')) (.int .i64 S'.sent) (.int .i64 S'.base) va' vl' (.bool S'.ended) (.bool (decide (S'.fin = 1) || decide (S'.fin = 3))) (.bool (decide (S'.fin = 3))) (.bool S'.stopped) (.bool (doneB S'))
  have hbX := hI.bl.lt
  have s1 := g1.size; have s2 := hA.kp.size; have s3 := gW.size; have s4 := g3.size; have s0 := hI.gr.size; have nw := hI.nw
  have hR := hA.rebase (grown_trans gW g3)
  have hnb : ¬ (((M bw ∨ X.heap.size ≤ bw) ∧ bw < X.heap.size ∨ X1.heap.size ≤ bw) ∧ bw < Y.heap.size) := fun q => by
    rcases q.1 with q1 | q1
    · rcases q1.1 with q2 | q2
      · exact hmb q2
      · omega
    · omega
  have hP2 := hR.past hnb (by omega) hP.2
  have gY : w.grownBy Y none := by
    have gx := grown_trans hI.gr g1
    exact ⟨hA.kp.os.trans gx.os, hA.kp.tape.trans gx.tape, hA.kp.output.trans gx.output, Nat.le_trans gx.size hA.kp.size, fun g hg _ => (hA.kp.block g (Nat.lt_of_lt_of_le hg gx.size) (fun q => by
      rcases q.1 with q1 | q1
      · have := hMw g q1; omega
      · omega)).trans (gx.block g hg (by simp))⟩
  have gY3 := grown_trans (grown_trans gY gW) g3
  have k1 := hst.whi; have k2 := hI.tot; have k3 := hst.l0; have k4 := hI.l0
  refine ⟨⟨_, ba, bl, vh, hP2, fun g q => ?_, fun g e q => ?_, fun g e q => ?_, hnb⟩, hP.1, (r1.keep g3).keepBut hP.2 (.inr fun e => ?_), (r2.keep g3).keepBut hP.2 (.inr fun e => ?_), hst.ok, hst.cap.trans hI.cap, by omega, hst.li, by omega, ?_, nw, hI.ne⟩
  · rcases q.1 with q1 | q1
    · rcases q1.1 with q2 | q2
      · exact hMw g q2
      · omega
    · omega
  · have := f1 g e; omega
  · have := f2 g e; omega
  · have := f1 bw e; omega
  · have := f2 bw e; omega
  · exact ⟨hP.2.os.trans gY3.os, hP.2.tape.trans gY3.tape, hP.2.output.trans gY3.output, Nat.le_trans gY3.size hP.2.size, fun g hg _ => (hP.2.block g (Nat.lt_of_lt_of_le hg gY3.size) (fun e => by cases e; omega)).trans (gY3.block g hg (by simp))⟩
end Go.Proofs.Ytdalekjpjnhboaa
