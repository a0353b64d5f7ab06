/- A controller that a call has made; the document's example. -/
import Derived.Test.YthpnbajhogoinaaIQ
import Derived.LoopIn
namespace Go.Proofs.Ythpnbajhogoinaa
open Go.RowKit Fl
set_option linter.unusedVariables false
set_option maxRecDepth 100000
set_option maxHeartbeats 4000000

/-- A controller that has been made since w, and nothing else is another; behind n steps at most. -/
structure QE (w wr : World) (b n : Nat) (s : Cs) : Prop where
  at_ : CB wr b s
  new : w.heap.size ≤ b
  grown : w.grownBy wr none
  ok : s.Ok n
theorem QE.keep {w wr wr' : World} {b n : Nat} {s : Cs} (h : QE w wr b n s) (g : wr.grownBy wr' none) : QE w wr' b n s := ⟨h.at_.grown g, h.new, gtrans h.grown g, h.ok⟩
theorem QE.up {w wr : World} {b n k : Nat} {s : Cs} (h : QE w wr b n s) (hk : n ≤ k) : QE w wr b k s := ⟨h.at_, h.new, h.grown, h.ok.up hk⟩
theorem QE.far {w wr wr' : World} {b c n : Nat} {s : Cs} (h : QE w wr b n s) (g : wr.grownBy wr' (some c)) (hn : b ≠ c) (hc : w.heap.size ≤ c) : QE w wr' b n s := ⟨Blk.far h.at_ g hn, h.new, grown_new h.grown g hc, h.ok⟩

theorem qe_does {w wr : World} {b n : Nat} {s : Cs} (h : QE w wr b n s) (hn : n ≤ 9999) (y : OpE) : Calls Try.prog 15 #[ptr b, .agg (opc y)] wr fun e w' => e = .returned (.bool (didF y s)) ∧ QE w w' b (n + 1) (doesF y s) ∧ wr.grownBy w' (some b) :=
  (does_any b s y wr h.at_ n h.ok hn).mono fun e w' ⟨he, h1, g⟩ => ⟨he, ⟨h1, h.new, grown_new h.grown g h.new, does_ok h.ok hn y⟩, g⟩
theorem qe_sent {w wr : World} {b n : Nat} {s : Cs} (h : QE w wr b n s) (hn : n ≤ 9999) (x : Int) : Calls Try.prog 26 #[ptr b, .int .i64 x] wr fun e w' => e = .returned (.tuple #[]) ∧ QE w w' b (n + 1) (sentF x s) ∧ wr.grownBy w' (some b) :=
  (sent_any b s x wr h.at_ ⟨h.ok.f.1, by have := h.ok.f.2; omega⟩).mono fun e w' ⟨he, h1, g⟩ => ⟨he, ⟨h1, h.new, grown_new h.grown g h.new, sent_ok h.ok x⟩, g⟩
theorem qe_acked {w wr : World} {b n : Nat} {s : Cs} (h : QE w wr b n s) (hn : n ≤ 9999) (now sent x : Int) (l : Bool) : Calls Try.prog 22 #[ptr b, .int .i64 now, .int .i64 sent, .int .i64 x, .bool l] wr fun e w' => e = .returned (.tuple #[]) ∧ QE w w' b (n + 1) (ackF now sent x l s) ∧ wr.grownBy w' (some b) :=
  (acked_any b s now sent x l wr h.at_ n h.ok hn).mono fun e w' ⟨he, h1, g⟩ => ⟨he, ⟨h1, h.new, grown_new h.grown g h.new, ack_ok h.ok hn now sent x l⟩, g⟩
theorem qe_lost {w wr : World} {b n : Nat} {s : Cs} (h : QE w wr b n s) (hn : n ≤ 9999) (x : Int) : Calls Try.prog 30 #[ptr b, .int .i64 x] wr fun e w' => e = .returned (.tuple #[]) ∧ QE w w' b n (landF x s) ∧ wr.grownBy w' (some b) :=
  (lost_any b s x wr h.at_ ⟨h.ok.f.1, by have := h.ok.f.2; omega⟩).mono fun e w' ⟨he, h1, g⟩ => ⟨he, ⟨h1, h.new, grown_new h.grown g h.new, land_ok h.ok x⟩, g⟩
theorem qe_dropped {w wr : World} {b n : Nat} {s : Cs} (h : QE w wr b n s) (hn : n ≤ 9999) (x : Int) : Calls Try.prog 31 #[ptr b, .int .i64 x] wr fun e w' => e = .returned (.tuple #[]) ∧ QE w w' b n (landF x s) ∧ wr.grownBy w' (some b) :=
  (dropped_any b s x wr h.at_ ⟨h.ok.f.1, by have := h.ok.f.2; omega⟩).mono fun e w' ⟨he, h1, g⟩ => ⟨he, ⟨h1, h.new, grown_new h.grown g h.new, land_ok h.ok x⟩, g⟩
theorem qe_event {w wr : World} {b n : Nat} {s : Cs} (h : QE w wr b n s) (hn : n ≤ 9999) (now sent : Int) : Calls Try.prog 21 #[ptr b, .int .i64 now, .int .i64 sent] wr fun e w' => e = .returned (.bool (!aheadB sent s)) ∧ QE w w' b n (eventF now sent s) ∧ wr.grownBy w' (some b) :=
  (event_any b s now sent wr h.at_ n h.ok hn).mono fun e w' ⟨he, h1, g⟩ => ⟨he, ⟨h1, h.new, grown_new h.grown g h.new, event_ok h.ok (by omega) now sent⟩, g⟩
theorem qe_coll {w wr : World} {b n : Nat} {s : Cs} (h : QE w wr b n s) : Calls Try.prog 23 #[ptr b] wr fun e w' => e = .returned (.tuple #[]) ∧ QE w w' b n (collF s) ∧ wr.grownBy w' (some b) :=
  (collapse_any b s wr h.at_ h.ok.m).mono fun e w' ⟨he, h1, g⟩ => ⟨he, ⟨h1, h.new, grown_new h.grown g h.new, coll_ok h.ok⟩, g⟩
theorem qe_view {w wr : World} {b n : Nat} {s : Cs} (h : QE w wr b n s) : Calls Try.prog 19 #[ptr b] wr fun e w' => e = .returned (.agg (vwc s)) ∧ QE w w' b n s ∧ wr.grownBy w' none :=
  (view_any b s wr h.at_).mono fun e w' ⟨he, g⟩ => ⟨he, h.keep g, g⟩
theorem qe_may {w wr : World} {b n : Nat} {s : Cs} (h : QE w wr b n s) (hn : n ≤ 9999) (x : Int) : Calls Try.prog 17 #[ptr b, .int .i64 x] wr fun e w' => e = .returned (.bool (mayF x s)) ∧ QE w w' b n s ∧ wr.grownBy w' none :=
  (may_any b s x wr h.at_ ⟨h.ok.f.1, by have := h.ok.f.2; omega⟩).mono fun e w' ⟨he, g⟩ => ⟨he, h.keep g, g⟩
theorem qe_ctl {w wr : World} (g : w.grownBy wr none) (n : Int) (h : i64B n) : Calls Try.prog 12 #[.int .i64 n] wr fun e w' => ∃ b, wr.heap.size ≤ b ∧ e = .returned (ptr b) ∧ QE w w' b 0 (cs0 (mtuF n)) ∧ wr.grownBy w' none :=
  (ctl_any n h wr).mono fun e w' ⟨b, he, hb, h1, g1⟩ => ⟨b, hb, he, ⟨h1, Nat.le_trans g.size hb, gtrans g g1, cs0_ok (mtu_fits n)⟩, g1⟩

/-- The example's first states. -/
def c8 (k : Nat) : Cs := ⟨1200, if k = 0 then 0 else 1000, 12000 + 1200 * k, 4611686018427387903, 1200 * k, -1, 0, -1, 0, 0, 0, 0⟩
theorem c8_step (k : Nat) (hk : k < 8) : ackF 1000 0 1200 false (sentF 2400 (c8 k)) = c8 (k + 1) := by
  unfold ackF
  rw [if_neg (by rintro (h | h); cases h; exact absurd h.1 (by show ¬ (0 : Int) ≤ -1; decide))]
  unfold raiseF
  have e1 : szz 1200 = 1200 := by decide
  have e2 : szz 2400 = 2400 := by decide
  have e3 : sp 1000 = 1000 := by decide
  have hlt : (landF 1200 (tickF 1000 (sentF 2400 (c8 k)))).size < (landF 1200 (tickF 1000 (sentF 2400 (c8 k)))).thr := by show (12000 : Int) + 1200 * k < 4611686018427387903; omega
  rw [if_pos hlt]
  unfold landF tickF sentF c8
  dsimp only
  rw [e1, e2, e3]
  have a1 : max (if k = 0 then (0 : Int) else 1000) 1000 = if k + 1 = 0 then 0 else 1000 := by rw [show (if k + 1 = 0 then (0 : Int) else 1000) = 1000 from if_neg (by omega)]; split <;> omega
  clear hlt e1 e2 e3
  have f1 : max ((1200 : Int) * (k : Int) + 2400 - 1200) 0 = 1200 * ((k : Int) + 1) := by omega
  have f2 : (12000 : Int) + 1200 * (k : Int) + 1200 = 12000 + 1200 * ((k : Int) + 1) := by omega
  have f3 : ((k + 1 : Nat) : Int) = (k : Int) + 1 := by omega
  rw [f3, f1, f2, a1]
theorem c8_ev : aheadB 5000 (c8 8) = false ∧ (eventF 2000000 5000 (c8 8)).size = 15120 ∧ (eventF 2000000 5000 (c8 8)).thr = 15120 ∧ (eventF 2000000 5000 (c8 8)).flight = 9600 ∧ (eventF 2000000 5000 (c8 8)).began = 2000000 := by
  have h : ¬ aheadF 5000 (c8 8) := by show ¬ ((0 : Int) ≤ -1 ∧ _); omega
  unfold eventF
  rw [if_neg h]
  exact ⟨decide_eq_false h, by show max (7 * ((12000 : Int) + 1200 * ((8 : Nat) : Int)) / 10) (2 * 1200) = 15120; decide, by show 7 * ((12000 : Int) + 1200 * ((8 : Nat) : Int)) / 10 = 15120; decide, by show (1200 : Int) * ((8 : Nat) : Int) = 9600; decide, by show max (1000 : Int) (sp 2000000) = 2000000; decide⟩
theorem c9_ev {s : Cs} (hb : s.began = 2000000) : aheadB 2000000 s = true ∧ eventF 2000001 2000000 s = tickF 2000001 s := by
  have h : aheadF 2000000 s := ⟨by omega, by rw [hb]; decide⟩
  unfold eventF
  rw [if_pos h]
  exact ⟨decide_eq_true h, rfl⟩
theorem shown_any (w : World) : Calls Try.prog 9 #[] w fun e w' => e = .returned (.bool true) ∧ w.grownBy w' none := by
  have hn := new_ok 1200 ⟨by decide, by decide⟩ w
  have e0 : cs0 1200 = c8 0 := by rfl
  have v0 : vwc (c8 0) = #[.int .i64 12000, .int .i64 4611686018427387903, .int .i64 0, .int .i64 (-1)] := by rfl
  have ok0 := cs0_ok (m := 1200) ⟨by decide, by decide⟩
  rw [e0] at hn ok0
  go_enter Try.func9, Try.ntmps9
  go_wp2_with fail
  refine hn.mono ?_
  rintro e W ⟨b, rfl, hb, hW, gW⟩
  have q0 : QE w W b 0 _ := ⟨hW, hb, gW, ok0⟩
  clear hn hW gW hb
  go_wp2_with fail
  refine (qe_view q0).mono ?_
  rintro e W1 ⟨rfl, q1, -⟩
  rw [v0]
  have S0 := hide q1
  clear q0 q1
  go_wp2_with fail
  go_loopw [3] (fun i wr => ∃ (k : Nat), k ≤ 8 ∧ i = .int .i64 k ∧ Hid (QE w wr b (2 * k) (c8 k))) (fun i _ => 8 - (intOf i).toNat)
  case atStart => exact ⟨0, Nat.zero_le _, rfl, S0⟩
  case round =>
    clear S0
    obtain ⟨k, hk, rfl, H⟩ := hrel
    by_cases hlt : k < 8
    · have kn : (k : Int) < 8 := by omega
      have st := c8_step k hlt
      have SE := qe_sent (unhide H) (by omega) 2400
      have HLT := hide hlt
      clear H hlt hk
      go_wp2_with fail
      refine SE.mono ?_
      rintro e W2 ⟨rfl, q2, -⟩
      have AC := qe_acked q2 (by have := unhide HLT; omega) 1000 0 1200 false
      rw [st] at AC
      clear SE q2 st
      go_wp2_with fail
      refine AC.mono ?_
      rintro e W3 ⟨rfl, q3, -⟩
      have R := hide q3
      clear AC q3
      go_wp2_with fail
      go_roundw
      case rel => exact ⟨k + 1, by have := unhide HLT; omega, by go_num, R⟩
      case measure => have := unhide HLT; simp [intOf]; omega
    · obtain rfl : k = 8 := by omega
      have kn : ¬ (((8 : Nat) : Int) < 8) := by decide
      obtain ⟨a1, z1, z2, z3, z4⟩ := c8_ev
      have EV := qe_event (unhide H) (by omega) 2000000 5000
      rw [a1] at EV
      generalize eventF 2000000 5000 (c8 8) = s9 at *
      clear H hlt hk
      go_wp2_with fail
      refine EV.mono ?_
      rintro e W4 ⟨rfl, q4, -⟩
      obtain ⟨a2, e2⟩ := c9_ev z4
      have EV2 := qe_event q4 (by omega) 2000001 2000000
      rw [a2, e2] at EV2
      have v9 : vwc (tickF 2000001 s9) = #[.int .i64 15120, .int .i64 15120, .int .i64 9600, .int .i64 2000000] := by show vwc s9 = _; unfold vwc; rw [z1, z2, z3, z4]
      clear EV q4 a2 e2 z1 z2 z3 z4
      go_wp2_with fail
      refine EV2.mono ?_
      rintro e W5 ⟨rfl, q5, -⟩
      clear EV2
      go_wp2_with fail
      refine (qe_view q5).mono ?_
      rintro e W6 ⟨rfl, q6, -⟩
      rw [v9]
      clear q5
      go_wp2_with fail
      go_ret
      exact ⟨rfl, q6.grown⟩
end Go.Proofs.Ythpnbajhogoinaa
