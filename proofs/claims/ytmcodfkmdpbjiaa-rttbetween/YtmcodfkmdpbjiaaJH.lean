/- An estimator that a call has made; the document's example. -/
import Derived.Test.YtmcodfkmdpbjiaaJG
namespace Go.Proofs.Ytmcodfkmdpbjiaa
open Go.RowKit
set_option linter.unusedVariables false
set_option maxRecDepth 100000
set_option maxHeartbeats 4000000

theorem gtrans {w1 w2 w3 : World} {r : Option Nat} (g : w1.grownBy w2 r) (h : w2.grownBy w3 r) : w1.grownBy w3 r := g.trans h
/-- An estimator that has been made since w, and nothing else is another. -/
structure QE (w wr : World) (b : Nat) (s : Es) : Prop where
  at_ : EB wr b s
  new : w.heap.size ≤ b
  grown : w.grownBy wr none
theorem QE.keep {w wr wr' : World} {b : Nat} {s : Es} (h : QE w wr b s) (g : wr.grownBy wr' none) : QE w wr' b s := ⟨h.at_.grown g, h.new, gtrans h.grown g⟩
theorem grown_new {w wr wr' : World} {b : Nat} (h : w.grownBy wr none) (g : wr.grownBy wr' (some b)) (hb : w.heap.size ≤ b) : w.grownBy wr' none :=
  ⟨g.os.trans h.os, g.tape.trans h.tape, g.output.trans h.output, Nat.le_trans h.size g.size, fun i hi _ => (g.block i (Nat.lt_of_lt_of_le hi h.size) (by intro e; cases e; omega)).trans (h.block i hi (by simp))⟩
theorem qe_sample {w wr : World} {b : Nat} {s : Es} (h : QE w wr b s) (ok : s.Ok) (now latest delay : Int) : Calls Try.prog 14 #[ptr b, .int .i64 now, .int .i64 latest, .int .i64 delay] wr fun e w' => e = .returned (.tuple #[]) ∧ QE w w' b (smpF now latest delay s) ∧ wr.grownBy w' (some b) :=
  (sample_any b s now latest delay wr h.at_ ok).mono fun e w' ⟨he, h1, g⟩ => ⟨he, ⟨h1, h.new, grown_new h.grown g h.new⟩, g⟩
theorem qe_restart {w wr : World} {b : Nat} {s : Es} (h : QE w wr b s) : Calls Try.prog 13 #[ptr b] wr fun e w' => e = .returned (.tuple #[]) ∧ QE w w' b { s with restart := true } ∧ wr.grownBy w' (some b) :=
  (restart_any b s wr h.at_).mono fun e w' ⟨he, h1, g⟩ => ⟨he, ⟨h1, h.new, grown_new h.grown g h.new⟩, g⟩

theorem qe_base {w wr : World} {b : Nat} {s : Es} (h : QE w wr b s) (ok : s.Ok) : Calls Try.prog 23 #[ptr b] wr fun e w' => e = .returned (.int .i64 (baseF s)) ∧ QE w w' b s ∧ wr.grownBy w' none :=
  (base_any b s wr h.at_ ok).mono fun e w' ⟨he, q, hq⟩ => ⟨he, hq ▸ h.keep (drewN_grown wr q), hq ▸ drewN_grown wr q⟩
theorem qe_loss {w wr : World} {b : Nat} {s : Es} (h : QE w wr b s) (ok : s.Ok) : Calls Try.prog 22 #[ptr b] wr fun e w' => e = .returned (.int .i64 (lossF s)) ∧ QE w w' b s ∧ wr.grownBy w' none :=
  (loss_any b s wr h.at_ ok).mono fun e w' ⟨he, q, hq⟩ => ⟨he, hq ▸ h.keep (drewN_grown wr q), hq ▸ drewN_grown wr q⟩
theorem qe_view {w wr : World} {b : Nat} {s : Es} (h : QE w wr b s) : Calls Try.prog 20 #[ptr b] wr fun e w' => e = .returned (.agg (viewF s)) ∧ QE w w' b s ∧ wr.grownBy w' none :=
  (view_any b s wr h.at_).mono fun e w' ⟨he, g⟩ => ⟨he, h.keep g, g⟩

theorem shown_any (w : World) : Calls Try.prog 9 #[] w fun e w' => e = .returned (.bool true) ∧ w.grownBy w' none := by
  have hn := new_ok 333000 1000 ⟨⟨by decide, by decide⟩, by decide, by decide⟩ w
  have ok0 : (es0 333000 1000).Ok := es0_ok ⟨⟨by decide, by decide⟩, by decide, by decide⟩
  have q0 : QE w (w.alloc (.cells (esc (es0 333000 1000)) 54)) w.heap.size (es0 333000 1000) := ⟨Blk.new _ _ _, Nat.le_refl _, World.grownBy_alloc _ _ _⟩
  have e1 : smpF 50 100000 20000 (es0 333000 1000) = ⟨1000, true, 100000, 100000, 100000, 50000, 50, false⟩ := by rfl
  have e2 : smpF 60 130000 20000 ⟨1000, true, 100000, 100000, 100000, 50000, 50, false⟩ = ⟨1000, true, 130000, 100000, 101250, 40000, 50, false⟩ := by rfl
  have e3 : smpF 70 110000 20000 ⟨1000, true, 130000, 100000, 101250, 40000, 50, false⟩ = ⟨1000, true, 110000, 100000, 102343, 32187, 50, false⟩ := by rfl
  have ok1 := smp_ok ok0 50 100000 20000
  rw [e1] at ok1
  have ok2 := smp_ok ok1 60 130000 20000
  rw [e2] at ok2
  have ok3 := smp_ok ok2 70 110000 20000
  rw [e3] at ok3
  have b0 : baseF (es0 333000 1000) = 999000 := by rfl
  have l0 : lossF (es0 333000 1000) = 374625 := by rfl
  have b3 : baseF ⟨1000, true, 110000, 100000, 102343, 32187, 50, false⟩ = 231091 := by rfl
  have l3 : lossF ⟨1000, true, 110000, 100000, 102343, 32187, 50, false⟩ = 123750 := by rfl
  have v3 : viewF ⟨1000, true, 110000, 100000, 102343, 32187, 50, false⟩ = #[.bool true, .int .i64 110000, .int .i64 100000, .int .i64 102343, .int .i64 32187, .int .i64 50] := by rfl
  go_enter Try.func9, Try.ntmps9
  go_wp2_with fail
  refine hn.mono ?_
  rintro e W ⟨rfl, hW⟩
  have q0' : QE w W w.heap.size (es0 333000 1000) := by rw [hW]; exact q0
  clear q0 hn hW
  go_wp2_with fail
  refine (qe_base q0' ok0).mono ?_
  rintro e W1 ⟨rfl, q1, -⟩
  rw [b0]
  go_wp2_with fail
  refine (qe_loss q1 ok0).mono ?_
  rintro e W2 ⟨rfl, q2, -⟩
  rw [l0]
  go_wp2_with fail
  refine (qe_sample q2 ok0 50 100000 20000).mono ?_
  rintro e X1 ⟨rfl, x1, -⟩
  rw [e1] at x1
  clear q0' q1 q2
  go_wp2_with fail
  refine (qe_sample x1 ok1 60 130000 20000).mono ?_
  rintro e X2 ⟨rfl, x2, -⟩
  rw [e2] at x2
  clear x1
  go_wp2_with fail
  refine (qe_sample x2 ok2 70 110000 20000).mono ?_
  rintro e X3 ⟨rfl, x3, -⟩
  rw [e3] at x3
  clear x2
  go_wp2_with fail
  refine (qe_view x3).mono ?_
  rintro e X4 ⟨rfl, y4, -⟩
  rw [v3]
  have x4 := y4.keep (World.grownBy_alloc X4 (.cells #[.bool true, .int .i64 110000, .int .i64 100000, .int .i64 102343, .int .i64 32187, .int .i64 50] 30) none)
  clear x3 y4
  go_wp2_with fail
  refine (qe_base x4 ok3).mono ?_
  rintro e W1 ⟨rfl, x5, -⟩
  rw [b3]
  go_wp2_with fail
  refine (qe_loss x5 ok3).mono ?_
  rintro e W1 ⟨rfl, x6, -⟩
  rw [l3]
  go_wp2_with fail
  refine (pto_shown _).mono ?_
  rintro e W9 ⟨rfl, hW9⟩
  replace hW9 := hW9.symm
  subst hW9
  go_wp2_with fail
  go_ret
  exact ⟨rfl, x6.grown⟩
end Go.Proofs.Ytmcodfkmdpbjiaa
