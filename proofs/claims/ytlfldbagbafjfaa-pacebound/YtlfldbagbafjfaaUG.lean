/- burst, pacer; a pacer that has been made; the document's example. -/
import Derived.Test.YtlfldbagbafjfaaUI
namespace Go.Proofs.Ytlfldbagbafjfaa
open Go.RowKit
set_option linter.unusedVariables false
set_option maxRecDepth 100000
set_option maxHeartbeats 4000000

def bF (n : Int) : Int := 2400 + (if n < 0 then -(n + 1) else n) % 1046177
theorem bF_fits (n : Int) : fitsF (bF n) := by unfold bF; constructor <;> omega

theorem burst_any (n : Int) (hn : i64B n) (w : World) : Calls Try.prog 12 #[.int .i64 n] w fun e w' => e = .returned (.int .i64 (bF n)) ∧ w' = w := by
  obtain ⟨n1, n2⟩ := hn
  have E : Hid (bF n = 2400 + (if n < 0 then -(n + 1) else n) % 1046177) := rfl
  by_cases c : n < 0
  · rw [if_pos c] at E
    obtain ⟨m, hm⟩ : ∃ m, m = -(n + 1) := ⟨_, rfl⟩
    rw [← hm] at E
    have i1 : IntKind.i64.wrap (n + 1) = n + 1 := by rw [IntKind.wrap_i64]; omega
    have i2 : IntKind.i64.wrap (-(n + 1)) = m := by rw [IntKind.wrap_i64]; omega
    have i3 : Int.tmod m 1046177 = m % 1046177 := Int.tmod_eq_emod_of_nonneg (by omega)
    have i4 : IntKind.i64.wrap (2400 + m % 1046177) = 2400 + m % 1046177 := by rw [IntKind.wrap_i64]; omega
    clear hm
    go_enter Try.func12, Try.ntmps12
    go_wp2
    go_ret
    first | exact ⟨ret_eq E, rfl⟩ | (refine ⟨ret_eq ?_, rfl⟩; show bF n = _; rw [unhide E]; first | omega | (rw [← i3]; omega))
  · rw [if_neg c] at E
    have i3 : Int.tmod n 1046177 = n % 1046177 := Int.tmod_eq_emod_of_nonneg (by omega)
    have i4 : IntKind.i64.wrap (2400 + n % 1046177) = 2400 + n % 1046177 := by rw [IntKind.wrap_i64]; omega
    go_enter Try.func12, Try.ntmps12
    go_wp2
    go_ret
    first | exact ⟨ret_eq E, rfl⟩ | (refine ⟨ret_eq ?_, rfl⟩; show bF n = _; rw [unhide E]; first | omega | (rw [← i3]; omega))

theorem pacer_any (n : Int) (hn : i64B n) (w : World) : Calls Try.prog 10 #[.int .i64 n] w fun e w' => e = .returned (ptr w.heap.size) ∧ w' = w.alloc (.cells (pcc (ps0 (bF n))) 48) := by
  have hb := burst_any n hn w
  have hw := new_ok (bF n) (bF_fits n) w
  go_enter Try.func10, Try.ntmps10
  go_wp2_with fail
  refine hb.mono ?_
  rintro e W ⟨rfl, hW⟩
  replace hW := hW.symm
  subst hW
  go_wp2_with fail
  refine hw.mono ?_
  rintro e W ⟨rfl, rfl⟩
  go_wp2_with fail
  go_ret
  exact ⟨rfl, rfl⟩

/-- A pacer that has been made since w, and nothing else is another. -/
structure QE (w wr : World) (b : Nat) (s : Ps) : Prop where
  at_ : PB wr b s
  new : w.heap.size ≤ b
  grown : w.grownBy wr none
  ok : s.Ok
theorem QE.keep {w wr wr' : World} {b : Nat} {s : Ps} (h : QE w wr b s) (g : wr.grownBy wr' none) : QE w wr' b s := ⟨h.at_.grown g, h.new, gtrans h.grown g, h.ok⟩
theorem grown_new {w wr wr' : World} {b : Nat} (h : w.grownBy wr none) (g : wr.grownBy wr' (some b)) (hb : w.heap.size ≤ b) : w.grownBy wr' none :=
  ⟨g.os.trans h.os, g.tape.trans h.tape, g.output.trans h.output, Nat.le_trans h.size g.size, fun i hi _ => (g.block i (Nat.lt_of_lt_of_le hi h.size) (by intro e; cases e; omega)).trans (h.block i hi (by simp))⟩
theorem QE.far {w wr wr' : World} {b c : Nat} {s : Ps} (h : QE w wr b s) (g : wr.grownBy wr' (some c)) (hn : b ≠ c) (hc : w.heap.size ≤ c) : QE w wr' b s := ⟨Blk.far h.at_ g hn, h.new, grown_new h.grown g hc, h.ok⟩
theorem grown_wk {w W : World} (g : w.grownBy W none) (b : Nat) : w.grownBy W (some b) := ⟨g.os, g.tape, g.output, g.size, fun i hi _ => g.block i hi (by simp)⟩

theorem qe_pacer {w wr : World} (g : w.grownBy wr none) (n : Int) (hn : i64B n) : Calls Try.prog 10 #[.int .i64 n] wr fun e w' => e = .returned (ptr wr.heap.size) ∧ QE w w' wr.heap.size (ps0 (bF n)) ∧ wr.grownBy w' none :=
  (pacer_any n hn wr).mono fun e w' ⟨he, hw⟩ => ⟨he, hw ▸ ⟨Blk.new _ _ _, g.size, gtrans g (World.grownBy_alloc _ _ _), ps0_ok (bF_fits n)⟩, hw ▸ World.grownBy_alloc _ _ _⟩
theorem qe_left {w wr : World} {b : Nat} {s : Ps} (h : QE w wr b s) (x : Int) : Calls Try.prog 19 #[ptr b, .int .i64 x] wr fun e w' => e = .returned (.int .i64 (fillF x s).left) ∧ QE w w' b (fillF x s) ∧ wr.grownBy w' (some b) :=
  (left_any b s x wr h.at_ h.ok).mono fun e w' ⟨he, h1, g⟩ => ⟨he, ⟨h1, h.new, grown_new h.grown g h.new, fill_ok h.ok x⟩, g⟩
theorem qe_when {w wr : World} {b : Nat} {s : Ps} (h : QE w wr b s) (x z : Int) : Calls Try.prog 15 #[ptr b, .int .i64 x, .int .i64 z] wr fun e w' => e = .returned (.int .i64 (whenF x z s)) ∧ QE w w' b (fillF x s) ∧ wr.grownBy w' (some b) :=
  (when_any b s x z wr h.at_ h.ok).mono fun e w' ⟨he, h1, g⟩ => ⟨he, ⟨h1, h.new, grown_new h.grown g h.new, fill_ok h.ok x⟩, g⟩
theorem qe_set {w wr : World} {b : Nat} {s : Ps} (h : QE w wr b s) (x y z : Int) : Calls Try.prog 13 #[ptr b, .int .i64 x, .int .i64 y, .int .i64 z] wr fun e w' => e = .returned (.tuple #[]) ∧ QE w w' b (setF x y z s) ∧ wr.grownBy w' (some b) :=
  (set_any b s x y z wr h.at_ h.ok).mono fun e w' ⟨he, h1, g⟩ => ⟨he, ⟨h1, h.new, grown_new h.grown g h.new, set_ok h.ok x y z⟩, g⟩
theorem qe_spend {w wr : World} {b : Nat} {s : Ps} (h : QE w wr b s) (x z : Int) : Calls Try.prog 17 #[ptr b, .int .i64 x, .int .i64 z] wr fun e w' => e = .returned (.tuple #[]) ∧ QE w w' b (spendF x z s) ∧ wr.grownBy w' (some b) :=
  (spend_any b s x z wr h.at_ h.ok).mono fun e w' ⟨he, h1, g⟩ => ⟨he, ⟨h1, h.new, grown_new h.grown g h.new, spend_ok h.ok x z⟩, g⟩

theorem shown_any (w : World) : Calls Try.prog 7 #[] w fun e w' => e = .returned (.bool true) ∧ w.grownBy w' none := by
  have hn := new_ok 12000 ⟨by decide, by decide⟩ w
  have q0 : QE w (w.alloc (.cells (pcc (ps0 12000)) 48)) w.heap.size (ps0 12000) := ⟨Blk.new _ _ _, Nat.le_refl _, World.grownBy_alloc _ _ _, ps0_ok ⟨by decide, by decide⟩⟩
  have e1 : setF 0 12000 50000 (ps0 12000) = ⟨12000, 0, 12000, 0, 60000, 200000⟩ := by rfl
  have e2 : fillF 0 ⟨12000, 0, 12000, 0, 60000, 200000⟩ = ⟨12000, 0, 12000, 0, 60000, 200000⟩ := by rfl
  have a2 : whenF 0 1200 ⟨12000, 0, 12000, 0, 60000, 200000⟩ = 0 := by rfl
  have e3 : spendF 0 12000 ⟨12000, 0, 12000, 0, 60000, 200000⟩ = ⟨12000, 0, 0, 0, 60000, 200000⟩ := by rfl
  have e4 : fillF 0 ⟨12000, 0, 0, 0, 60000, 200000⟩ = ⟨12000, 0, 0, 0, 60000, 200000⟩ := by rfl
  have a4 : whenF 0 1200 ⟨12000, 0, 0, 0, 60000, 200000⟩ = 4000 := by rfl
  have e5 : fillF 1001 ⟨12000, 0, 0, 0, 60000, 200000⟩ = ⟨12000, 1001, 300, 60000, 60000, 200000⟩ := by rfl
  have e6 : fillF 1001 ⟨12000, 1001, 300, 60000, 60000, 200000⟩ = ⟨12000, 1001, 300, 60000, 60000, 200000⟩ := by rfl
  have a6 : whenF 1001 1200 ⟨12000, 1001, 300, 60000, 60000, 200000⟩ = 4000 := by rfl
  have e7 : fillF 4000 ⟨12000, 1001, 300, 60000, 60000, 200000⟩ = ⟨12000, 4000, 1200, 0, 60000, 200000⟩ := by rfl
  have e8 : spendF 3000 20000 ⟨12000, 4000, 1200, 0, 60000, 200000⟩ = ⟨12000, 4000, -10800, 0, 60000, 200000⟩ := by rfl
  have e9 : fillF 0 ⟨12000, 4000, -10800, 0, 60000, 200000⟩ = ⟨12000, 4000, -10800, 0, 60000, 200000⟩ := by rfl
  go_enter Try.func7, Try.ntmps7
  go_wp2_with fail
  refine hn.mono ?_
  rintro e W ⟨rfl, hW⟩
  rw [← hW] at q0
  clear hn hW
  go_wp2_with fail
  refine (qe_set q0 0 12000 50000).mono ?_
  rintro e W1 ⟨rfl, q1, -⟩
  rw [e1] at q1
  clear q0
  go_wp2_with fail
  refine (qe_when q1 0 1200).mono ?_
  rintro e W2 ⟨rfl, q2, -⟩
  rw [e2] at q2
  rw [a2]
  clear q1
  go_wp2_with fail
  refine (qe_spend q2 0 12000).mono ?_
  rintro e W3 ⟨rfl, q3, -⟩
  rw [e3] at q3
  clear q2
  go_wp2_with fail
  refine (qe_when q3 0 1200).mono ?_
  rintro e W4 ⟨rfl, q4, -⟩
  rw [e4] at q4
  rw [a4]
  clear q3
  go_wp2_with fail
  refine (qe_left q4 1001).mono ?_
  rintro e W5 ⟨rfl, q5, -⟩
  rw [e5] at q5
  rw [e5]
  clear q4
  go_wp2_with fail
  refine (qe_when q5 1001 1200).mono ?_
  rintro e W6 ⟨rfl, q6, -⟩
  rw [e6] at q6
  rw [a6]
  clear q5
  go_wp2_with fail
  refine (qe_left q6 4000).mono ?_
  rintro e W7 ⟨rfl, q7, -⟩
  rw [e7] at q7
  rw [e7]
  clear q6
  go_wp2_with fail
  refine (qe_spend q7 3000 20000).mono ?_
  rintro e W8 ⟨rfl, q8, -⟩
  rw [e8] at q8
  clear q7
  go_wp2_with fail
  refine (qe_left q8 0).mono ?_
  rintro e W9 ⟨rfl, q9, -⟩
  rw [e9]
  go_wp2_with fail
  go_ret
  exact ⟨rfl, q9.grown⟩
end Go.Proofs.Ytlfldbagbafjfaa
