/- The program's functions. -/
import Derived.Test.YthpnbajhogoinaaIE
namespace Go.Proofs.Ythpnbajhogoinaa
open Go.RowKit Fl
set_option linter.unusedVariables false
set_option maxRecDepth 100000
set_option maxHeartbeats 2000000

theorem drewS {w W : World} {b : Nat} (g : w.grownBy W (some b)) : w.grownBy W.drew (some b) := ⟨g.os, g.tape, g.output, g.size, g.block⟩
theorem drewN_grown (w : World) (q : Nat) : w.grownBy (w.drewN q) none := ⟨rfl, rfl, rfl, Nat.le_refl _, fun _ _ _ => rfl⟩
theorem drew_grown (w : World) : w.grownBy w.drew none := ⟨rfl, rfl, rfl, Nat.le_refl _, fun _ _ _ => rfl⟩
theorem gtrans {w1 w2 w3 : World} {r : Option Nat} (g : w1.grownBy w2 r) (h : w2.grownBy w3 r) : w1.grownBy w3 r := g.trans h

theorem least_any (b : Nat) (s : Cs) (w : World) (h : CB w b s) (hm : 1200 ≤ s.mtu ∧ s.mtu ≤ 9000) : Calls Try.prog 28 #[ptr b] w fun e w' => e = .returned (.int .i64 (2 * s.mtu)) ∧ w' = w := by
  obtain ⟨t, c0, -, -, -, -, -⟩ := h.full
  obtain ⟨m1, m2⟩ := hm
  clear h
  generalize s.mtu = m at *
  go_enter Try.func28, Try.ntmps28
  go_wp2
  go_ret
  exact ⟨rfl, rfl⟩

theorem ahead_any (b : Nat) (s : Cs) (x : Int) (w : World) (h : CB w b s) : Calls Try.prog 39 #[ptr b, .int .i64 x] w fun e w' => e = .returned (.bool (aheadB x s)) ∧ w.grownBy w' none := by
  have hm := fun q => moment_any x (w.drewN q)
  obtain ⟨t, -, -, -, -, -, c5⟩ := h.full
  have G := hide (fun q => drewN_grown w q)
  have E : Hid (∀ B : Bool, (B = true ↔ aheadF x s) → aheadB x s = B) := by
    intro B hB
    unfold aheadB
    by_cases c : aheadF x s
    · rw [decide_eq_true c, hB.2 c]
    · rw [decide_eq_false c]; cases B; rfl; exact absurd (hB.1 rfl) c
  unfold aheadF at E
  clear h
  generalize aheadB x s = R at *
  generalize sp x = T at *
  generalize s.began = c at *
  by_cases h1 : 0 ≤ c
  · by_cases h2 : T ≤ c
    · have E' : Hid (R = true) := unhide E true ⟨fun _ => ⟨h1, h2⟩, fun _ => rfl⟩
      go_enter Try.func39, Try.ntmps39
      go_wp2_with fail
      go_quiet (exact Calls.quiet_of_same (hm _))
      go_wp2_with fail
      go_ret
      first | exact ⟨ret_beq' E', unhide G _⟩ | exact ⟨ret_beq' ((unhide E').trans (decide_eq_false (Int.not_le.2 h2)).symm), unhide G _⟩
    · have E' : Hid (R = false) := unhide E false ⟨fun h => by simp at h, fun h => absurd h.2 h2⟩
      go_enter Try.func39, Try.ntmps39
      go_wp2_with fail
      go_quiet (exact Calls.quiet_of_same (hm _))
      go_wp2_with fail
      go_ret
      first | exact ⟨ret_beq' E', unhide G _⟩ | exact ⟨ret_beq' ((unhide E').trans (decide_eq_false (Int.not_le.2 h2)).symm), unhide G _⟩
  · have E' : Hid (R = false) := unhide E false ⟨fun h => by simp at h, fun h => absurd h.1 h1⟩
    have hd : decide (0 ≤ c) = false := decide_eq_false h1
    go_enter Try.func39, Try.ntmps39
    go_wp2_with fail
    go_quiet (exact Calls.quiet_of_same (hm _))
    go_wp2_with fail
    go_ret
    exact ⟨ret_beq' E', unhide G _⟩

theorem view_any (b : Nat) (s : Cs) (w : World) (h : CB w b s) : Calls Try.prog 19 #[ptr b] w fun e w' => e = .returned (.agg (vwc s)) ∧ w.grownBy w' none := by
  have h0 : CB (w.alloc (.cells #[.int .i64 0, .int .i64 0, .int .i64 0, .int .i64 0] 33)) b s := h.alloc _
  obtain ⟨-, -, -, c2, c3, c4, c5⟩ := h0.full
  have F := hide (And.intro (Blk.new w (vwc s) 33) (World.grownBy_alloc w (.cells (vwc s) 33) none))
  clear h h0
  unfold vwc at *
  generalize s.size = l at *
  generalize s.thr = m at *
  generalize s.flight = sm at *
  generalize s.began = v at *
  go_enter Try.func19, Try.ntmps19
  go_wp2
  refine bodyPost_ret (results_cell_row rfl _ _ w.heap.size 33 _ (0, 0) _ rfl (unhide F).1 Try.underlying33 rfl Try.sizeW) rfl ?_
  exact ⟨rfl, (unhide F).2⟩

def mayF (x : Int) (s : Cs) : Bool := decide (s.flight + szz x ≤ s.size)
theorem may_any (b : Nat) (s : Cs) (x : Int) (w : World) (h : CB w b s) (hf : 0 ≤ s.flight ∧ s.flight ≤ 1000000000000) : Calls Try.prog 17 #[ptr b, .int .i64 x] w fun e w' => e = .returned (.bool (mayF x s)) ∧ w.grownBy w' none := by
  have hm := fun q => amount_any x (w.drewN q)
  obtain ⟨z1, z2⟩ := szb x
  obtain ⟨f1, f2⟩ := hf
  obtain ⟨t, -, -, c2, -, c4, -⟩ := h.full
  have G := hide (fun q => drewN_grown w q)
  unfold mayF
  clear h
  generalize szz x = T at *
  generalize s.flight = c at *
  generalize s.size = z at *
  by_cases h1 : c + T ≤ z
  · have E : Hid (decide (c + T ≤ z) = true) := decide_eq_true h1
    go_enter Try.func17, Try.ntmps17
    go_wp2_with fail
    go_quiet (exact Calls.quiet_of_same (hm _))
    go_wp2_with fail
    go_ret
    first | exact ⟨ret_beq' E, unhide G _⟩ | exact ⟨rfl, unhide G _⟩
  · have E : Hid (decide (c + T ≤ z) = false) := decide_eq_false h1
    go_enter Try.func17, Try.ntmps17
    go_wp2_with fail
    go_quiet (exact Calls.quiet_of_same (hm _))
    go_wp2_with fail
    go_ret
    first | exact ⟨ret_beq' E, unhide G _⟩ | exact ⟨rfl, unhide G _⟩

end Go.Proofs.Ythpnbajhogoinaa
