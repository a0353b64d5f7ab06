/- A controller that a call has made; the document's example. -/
import Derived.Test.YtgmnlhbfhdgidaaGE
namespace Go.Proofs.Ytgmnlhbfhdgidaa
open Go.RowKit
set_option linter.unusedVariables false
set_option maxRecDepth 100000
set_option maxHeartbeats 4000000

/-- A controller that has been made since w, and nothing else is another; behind n steps at most. -/
structure QE (w wr : World) (b n : Nat) (s : Cs) : Prop where
  at_ : CB wr b s
  new : w.heap.size ≤ b
  grown : w.grownBy wr none
  ok : s.Ok n
theorem QE.keep {w wr wr' : World} {b n : Nat} {s : Cs} (h : QE w wr b n s) (g : wr.grownBy wr' none) : QE w wr' b n s := ⟨h.at_.grown g, h.new, gtrans h.grown g, h.ok⟩
theorem QE.up {w wr : World} {b n k : Nat} {s : Cs} (h : QE w wr b n s) (hk : n ≤ k) : QE w wr b k s := ⟨h.at_, h.new, h.grown, h.ok.up hk⟩
theorem QE.far {w wr wr' : World} {b c n : Nat} {s : Cs} (h : QE w wr b n s) (g : wr.grownBy wr' (some c)) (hn : b ≠ c) (hc : w.heap.size ≤ c) : QE w wr' b n s := ⟨Blk.far h.at_ g hn, h.new, grown_new h.grown g hc, h.ok⟩

theorem qe_does {w wr : World} {b n : Nat} {s : Cs} (h : QE w wr b n s) (hn : n ≤ 100000) (y : OpE) : Calls Try.prog 15 #[ptr b, .agg (opc y)] wr fun e w' => e = .returned (.bool (cutF y s)) ∧ QE w w' b (n + 1) (doesF y s) ∧ wr.grownBy w' (some b) :=
  (does_any b s y wr h.at_ (ok_in h.ok (by omega))).mono fun e w' ⟨he, h1, g⟩ => ⟨he, ⟨h1, h.new, grown_new h.grown g h.new, does_ok h.ok y⟩, g⟩
theorem qe_sent {w wr : World} {b n : Nat} {s : Cs} (h : QE w wr b n s) (hn : n ≤ 100000) (x : Int) : Calls Try.prog 26 #[ptr b, .int .i64 x] wr fun e w' => e = .returned (.tuple #[]) ∧ QE w w' b (n + 1) (sentF x s) ∧ wr.grownBy w' (some b) :=
  (sent_any b s x wr h.at_ (ok_in h.ok (by omega)).2.1).mono fun e w' ⟨he, h1, g⟩ => ⟨he, ⟨h1, h.new, grown_new h.grown g h.new, sent_ok h.ok x⟩, g⟩
theorem qe_acked {w wr : World} {b n : Nat} {s : Cs} (h : QE w wr b n s) (hn : n ≤ 100000) (now sent x : Int) (l : Bool) : Calls Try.prog 21 #[ptr b, .int .i64 now, .int .i64 sent, .int .i64 x, .bool l] wr fun e w' => e = .returned (.tuple #[]) ∧ QE w w' b (n + 1) (ackF now sent x l s) ∧ wr.grownBy w' (some b) :=
  (acked_any b s now sent x l wr h.at_ (ok_in h.ok (by omega))).mono fun e w' ⟨he, h1, g⟩ => ⟨he, ⟨h1, h.new, grown_new h.grown g h.new, ack_ok h.ok now sent x l⟩, g⟩
theorem qe_lost {w wr : World} {b n : Nat} {s : Cs} (h : QE w wr b n s) (hn : n ≤ 100000) (x : Int) : Calls Try.prog 27 #[ptr b, .int .i64 x] wr fun e w' => e = .returned (.tuple #[]) ∧ QE w w' b n (landF x s) ∧ wr.grownBy w' (some b) :=
  (lost_any b s x wr h.at_ (ok_in h.ok (by omega)).2.1).mono fun e w' ⟨he, h1, g⟩ => ⟨he, ⟨h1, h.new, grown_new h.grown g h.new, land_ok h.ok x⟩, g⟩
theorem qe_dropped {w wr : World} {b n : Nat} {s : Cs} (h : QE w wr b n s) (hn : n ≤ 100000) (x : Int) : Calls Try.prog 25 #[ptr b, .int .i64 x] wr fun e w' => e = .returned (.tuple #[]) ∧ QE w w' b n (landF x s) ∧ wr.grownBy w' (some b) :=
  (dropped_any b s x wr h.at_ (ok_in h.ok (by omega)).2.1).mono fun e w' ⟨he, h1, g⟩ => ⟨he, ⟨h1, h.new, grown_new h.grown g h.new, land_ok h.ok x⟩, g⟩
theorem qe_event {w wr : World} {b n : Nat} {s : Cs} (h : QE w wr b n s) (hn : n ≤ 100000) (now sent : Int) : Calls Try.prog 20 #[ptr b, .int .i64 now, .int .i64 sent] wr fun e w' => e = .returned (.bool (!aheadB sent s)) ∧ QE w w' b n (eventF now sent s) ∧ wr.grownBy w' (some b) :=
  (event_any b s now sent wr h.at_ (ok_in h.ok (by omega))).mono fun e w' ⟨he, h1, g⟩ => ⟨he, ⟨h1, h.new, grown_new h.grown g h.new, event_ok h.ok now sent⟩, g⟩
theorem qe_coll {w wr : World} {b n : Nat} {s : Cs} (h : QE w wr b n s) : Calls Try.prog 23 #[ptr b] wr fun e w' => e = .returned (.tuple #[]) ∧ QE w w' b n (collF s) ∧ wr.grownBy w' (some b) :=
  (collapse_any b s wr h.at_ h.ok.m).mono fun e w' ⟨he, h1, g⟩ => ⟨he, ⟨h1, h.new, grown_new h.grown g h.new, coll_ok h.ok⟩, g⟩
theorem qe_view {w wr : World} {b n : Nat} {s : Cs} (h : QE w wr b n s) : Calls Try.prog 19 #[ptr b] wr fun e w' => e = .returned (.agg (vwc s)) ∧ QE w w' b n s ∧ wr.grownBy w' none :=
  (view_any b s wr h.at_).mono fun e w' ⟨he, g⟩ => ⟨he, h.keep g, g⟩
theorem qe_may {w wr : World} {b n : Nat} {s : Cs} (h : QE w wr b n s) (hn : n ≤ 100000) (x : Int) : Calls Try.prog 17 #[ptr b, .int .i64 x] wr fun e w' => e = .returned (.bool (mayF x s)) ∧ QE w w' b n s ∧ wr.grownBy w' none :=
  (may_any b s x wr h.at_ (ok_in h.ok (by omega)).2.1).mono fun e w' ⟨he, g⟩ => ⟨he, h.keep g, g⟩
theorem qe_ctl {w wr : World} (g : w.grownBy wr none) (n : Int) (h : i64B n) : Calls Try.prog 12 #[.int .i64 n] wr fun e w' => ∃ b, b = wr.heap.size ∧ e = .returned (ptr b) ∧ QE w w' b 0 (cs0 (mtuF n)) ∧ wr.grownBy w' none :=
  (ctl_any n h wr).mono fun e w' ⟨he, h1, g1⟩ => ⟨_, rfl, he, ⟨h1, g.size, gtrans g g1, cs0_ok (mtu_fits n)⟩, g1⟩

theorem shown_any (w : World) : Calls Try.prog 9 #[] w fun e w' => e = .returned (.bool true) ∧ w.grownBy w' none := by
  have hn := new_ok 1200 ⟨by decide, by decide⟩ w
  have e0 : cs0 1200 = ⟨1200, 0, 12000, 4611686018427387903, 0, -1, 0⟩ := by rfl
  have e1 : sentF 12000 ⟨1200, 0, 12000, 4611686018427387903, 0, -1, 0⟩ = ⟨1200, 0, 12000, 4611686018427387903, 12000, -1, 0⟩ := by rfl
  have e2 : ackF 100 10 1200 false ⟨1200, 0, 12000, 4611686018427387903, 12000, -1, 0⟩ = ⟨1200, 100, 13200, 4611686018427387903, 10800, -1, 0⟩ := by rfl
  have e3 : landF 1200 ⟨1200, 100, 13200, 4611686018427387903, 10800, -1, 0⟩ = ⟨1200, 100, 13200, 4611686018427387903, 9600, -1, 0⟩ := by rfl
  have e4 : eventF 200 12 ⟨1200, 100, 13200, 4611686018427387903, 9600, -1, 0⟩ = ⟨1200, 200, 6600, 6600, 9600, 200, 0⟩ := by rfl
  have e5 : eventF 210 200 ⟨1200, 200, 6600, 6600, 9600, 200, 0⟩ = ⟨1200, 210, 6600, 6600, 9600, 200, 0⟩ := by rfl
  have a4 : aheadB 12 ⟨1200, 100, 13200, 4611686018427387903, 9600, -1, 0⟩ = false := by rfl
  have a5 : aheadB 200 ⟨1200, 200, 6600, 6600, 9600, 200, 0⟩ = true := by rfl
  have v0 : vwc ⟨1200, 0, 12000, 4611686018427387903, 0, -1, 0⟩ = #[.int .i64 12000, .int .i64 4611686018427387903, .int .i64 0, .int .i64 (-1)] := by rfl
  have v5 : vwc ⟨1200, 210, 6600, 6600, 9600, 200, 0⟩ = #[.int .i64 6600, .int .i64 6600, .int .i64 9600, .int .i64 200] := by rfl
  have ok0 := cs0_ok (m := 1200) ⟨by decide, by decide⟩
  rw [e0] at hn ok0
  go_enter Try.func9, Try.ntmps9
  go_wp2_with fail
  refine hn.mono ?_
  rintro e W ⟨rfl, hW, gW⟩
  have q0 : QE w W w.heap.size 0 _ := ⟨hW, Nat.le_refl _, gW, ok0⟩
  clear hn hW gW
  generalize w.heap.size = b at *
  go_wp2_with fail
  refine (qe_view q0).mono ?_
  rintro e W1 ⟨rfl, q1, -⟩
  rw [v0]
  clear q0
  go_wp2_with fail
  refine (qe_sent q1 (by omega) 12000).mono ?_
  rintro e W2 ⟨rfl, q2, -⟩
  rw [e1] at q2
  clear q1
  go_wp2_with fail
  refine (qe_acked q2 (by omega) 100 10 1200 false).mono ?_
  rintro e W3 ⟨rfl, q3, -⟩
  rw [e2] at q3
  clear q2
  go_wp2_with fail
  refine (qe_lost q3 (by omega) 1200).mono ?_
  rintro e W4 ⟨rfl, q4, -⟩
  rw [e3] at q4
  clear q3
  go_wp2_with fail
  refine (qe_event q4 (by omega) 200 12).mono ?_
  rintro e W5 ⟨rfl, q5, -⟩
  rw [e4] at q5
  rw [a4]
  clear q4
  go_wp2_with fail
  refine (qe_event q5 (by omega) 210 200).mono ?_
  rintro e W6 ⟨rfl, q6, -⟩
  rw [e5] at q6
  rw [a5]
  clear q5
  go_wp2_with fail
  refine (qe_view q6).mono ?_
  rintro e W7 ⟨rfl, q7, -⟩
  rw [v5]
  clear q6
  go_wp2_with fail
  go_ret
  exact ⟨rfl, q7.grown⟩
end Go.Proofs.Ytgmnlhbfhdgidaa
