/- alike. -/
import Derived.Test.YtdalekjpjnhboaaS5W
namespace Go.Proofs.Ytdalekjpjnhboaa
open Go.RowKit
set_option linter.unusedVariables false
set_option maxHeartbeats 1000000
set_option maxRecDepth 100000

theorem alike15 {w : World} {S S0 : Sd} {va vl va0 vl0 : Value} (ha : Row w va S.A) (hl : Row w vl S.L) (ha0 : Row w va0 S0.A) (hl0 : Row w vl0 S0.L) (n1 : S.A.length ≤ 1000000) (n2 : S.L.length ≤ 1000000) (n3 : S0.A.length ≤ 1000000) (n4 : S0.L.length ≤ 1000000) :
    Calls Try.prog 24 #[.agg (viewC S va vl), .agg (viewC S0 va0 vl0)] w (SameP (S = S0) w) := by
  obtain ⟨W1, hW1⟩ : ∃ W1, W1 = (w.alloc (.cells (viewC S va vl) 36)).alloc (.cells (viewC S0 va0 vl0) 36) := ⟨_, rfl⟩
  have g1 : w.grownBy W1 none := by rw [hW1]; exact grown_trans (grown_alloc _ _) (grown_alloc _ _)
  have b1 : Blk W1 w.heap.size (viewC S va vl) 36 := by rw [hW1]; exact (Blk.new _ _ _).alloc _
  have b2 : Blk W1 (w.heap.size + 1) (viewC S0 va0 vl0) 36 := by rw [hW1, ← alloc_size w (.cells (viewC S va vl) 36)]; exact Blk.new _ _ _
  have hr1 := runs15 (ha.keep g1) (ha0.keep g1) n1 n3
  have hr2 := fun X (g : W1.grownBy X none) => runs15 ((hl.keep g1).keep g) ((hl0.keep g1).keep g) n2 n4
  have HE : Hid (S = S0 → S.A = S0.A ∧ S.L = S0.L) := fun e => by rw [e]; exact ⟨rfl, rfl⟩
  obtain ⟨a1, c1, rfl, -⟩ := ha.shape
  obtain ⟨a2, c2, rfl, -⟩ := hl.shape
  obtain ⟨a3, c3, rfl, -⟩ := ha0.shape
  obtain ⟨a4, c4, rfl, -⟩ := hl0.shape
  have G1 := hide g1
  have HC : ∀ X, W1.grownBy X none → (X.cell? ⟨w.heap.size, 0, none⟩ = some (.int .i64 (wr S)) ∧ X.cell? ⟨w.heap.size, 1, none⟩ = some (.int .i64 S.sent) ∧ X.cell? ⟨w.heap.size, 2, none⟩ = some (.int .i64 S.base) ∧ X.cell? ⟨w.heap.size, 4, none⟩ = some (.slice a2 S.L.length c2) ∧ X.cell? ⟨w.heap.size, 5, none⟩ = some (.bool S.ended) ∧ X.cell? ⟨w.heap.size, 6, none⟩ = some (.bool (decide (S.fin = 1) || decide (S.fin = 3))) ∧ X.cell? ⟨w.heap.size, 7, none⟩ = some (.bool (decide (S.fin = 3))) ∧ X.cell? ⟨w.heap.size, 8, none⟩ = some (.bool S.stopped) ∧ X.cell? ⟨w.heap.size, 9, none⟩ = some (.bool (doneB S))) ∧ (X.cell? ⟨w.heap.size + 1, 0, none⟩ = some (.int .i64 (wr S0)) ∧ X.cell? ⟨w.heap.size + 1, 1, none⟩ = some (.int .i64 S0.sent) ∧ X.cell? ⟨w.heap.size + 1, 2, none⟩ = some (.int .i64 S0.base) ∧ X.cell? ⟨w.heap.size + 1, 4, none⟩ = some (.slice a4 S0.L.length c4) ∧ X.cell? ⟨w.heap.size + 1, 5, none⟩ = some (.bool S0.ended) ∧ X.cell? ⟨w.heap.size + 1, 6, none⟩ = some (.bool (decide (S0.fin = 1) || decide (S0.fin = 3))) ∧ X.cell? ⟨w.heap.size + 1, 7, none⟩ = some (.bool (decide (S0.fin = 3))) ∧ X.cell? ⟨w.heap.size + 1, 8, none⟩ = some (.bool S0.stopped) ∧ X.cell? ⟨w.heap.size + 1, 9, none⟩ = some (.bool (doneB S0))) := fun X g => by
    have e1 := b1.grown g
    have e2 := b2.grown g
    exact ⟨⟨e1.cell 0 _ rfl, e1.cell 1 _ rfl, e1.cell 2 _ rfl, e1.cell 4 _ rfl, e1.cell 5 _ rfl, e1.cell 6 _ rfl, e1.cell 7 _ rfl, e1.cell 8 _ rfl, e1.cell 9 _ rfl⟩, e2.cell 0 _ rfl, e2.cell 1 _ rfl, e2.cell 2 _ rfl, e2.cell 4 _ rfl, e2.cell 5 _ rfl, e2.cell 6 _ rfl, e2.cell 7 _ rfl, e2.cell 8 _ rfl, e2.cell 9 _ rfl⟩
  have x3 : W1.cell? ⟨w.heap.size, 3, none⟩ = some (.slice a1 S.A.length c1) := b1.cell 3 _ rfl
  have y3 : W1.cell? ⟨w.heap.size + 1, 3, none⟩ = some (.slice a3 S0.A.length c3) := b2.cell 3 _ rfl
  obtain ⟨p0, hp0⟩ : ∃ b : Bool, (wr S == wr S0) = b := ⟨_, rfl⟩
  have Hp0 : Hid (S = S0 → p0 = true) := fun e => by rw [← hp0, e]; simp
  obtain ⟨p1, hp1⟩ : ∃ b : Bool, (S.sent == S0.sent) = b := ⟨_, rfl⟩
  have Hp1 : Hid (S = S0 → p1 = true) := fun e => by rw [← hp1, e]; simp
  obtain ⟨p2, hp2⟩ : ∃ b : Bool, (S.base == S0.base) = b := ⟨_, rfl⟩
  have Hp2 : Hid (S = S0 → p2 = true) := fun e => by rw [← hp2, e]; simp
  obtain ⟨p3, hp3⟩ : ∃ b : Bool, (S.ended == S0.ended) = b := ⟨_, rfl⟩
  have Hp3 : Hid (S = S0 → p3 = true) := fun e => by rw [← hp3, e]; simp
  obtain ⟨p4, hp4⟩ : ∃ b : Bool, ((decide (S.fin = 1) || decide (S.fin = 3)) == (decide (S0.fin = 1) || decide (S0.fin = 3))) = b := ⟨_, rfl⟩
  have Hp4 : Hid (S = S0 → p4 = true) := fun e => by rw [← hp4, e]; simp
  obtain ⟨p5, hp5⟩ : ∃ b : Bool, (decide (S.fin = 3) == decide (S0.fin = 3)) = b := ⟨_, rfl⟩
  have Hp5 : Hid (S = S0 → p5 = true) := fun e => by rw [← hp5, e]; simp
  obtain ⟨p6, hp6⟩ : ∃ b : Bool, (S.stopped == S0.stopped) = b := ⟨_, rfl⟩
  have Hp6 : Hid (S = S0 → p6 = true) := fun e => by rw [← hp6, e]; simp
  obtain ⟨p7, hp7⟩ : ∃ b : Bool, (doneB S == doneB S0) = b := ⟨_, rfl⟩
  have Hp7 : Hid (S = S0 → p7 = true) := fun e => by rw [← hp7, e]; simp
  unfold viewC at hW1 ⊢
  clear ha hl ha0 hl0 n1 n2 n3 n4 g1 b1 b2
  generalize doneB S = k1 at *
  generalize doneB S0 = k2 at *
  generalize S.stopped = k3 at *
  generalize S0.stopped = k4 at *
  generalize (decide (S.fin = 1) || decide (S.fin = 3)) = k5 at *
  generalize (decide (S0.fin = 1) || decide (S0.fin = 3)) = k6 at *
  generalize decide (S.fin = 3) = k7 at *
  generalize decide (S0.fin = 3) = k8 at *
  generalize S.ended = k9 at *
  generalize S0.ended = k10 at *
  generalize S.base = k11 at *
  generalize S0.base = k12 at *
  generalize S.sent = k13 at *
  generalize S0.sent = k14 at *
  generalize wr S = k15 at *
  generalize wr S0 = k16 at *
  go_enter Try.func24, Try.ntmps24
  go_wp2_with fail
  rw [← hW1]
  clear hW1
  refine hr1.mono ?_
  rintro e W2 ⟨r1, rfl, hr1', g2⟩
  have Hr1 : Hid (S = S0 → r1 = true) := fun e => hr1' (unhide HE e).1
  have hr2a := hr2 W2 g2
  obtain ⟨⟨x0, x1, x2, x4, x5, x6, x7, x8, x9⟩, y0, y1, y2, y4, y5, y6, y7, y8, y9⟩ := HC W2 g2
  have G2 := hide g2
  clear hr1 hr1' hr2 x3 y3 g2
  go_wp2_with fail
  refine hr2a.mono ?_
  rintro e W3 ⟨r2, rfl, hr2', g3⟩
  have Hr2 : Hid (S = S0 → r2 = true) := fun e => hr2' (unhide HE e).2
  have g4 := grown_trans (unhide G2) g3
  clear x0 x1 x2 x4 x5 x6 x7 x8 x9 y0 y1 y2 y4 y5 y6 y7 y8 y9 hr2a hr2'
  obtain ⟨⟨x0, x1, x2, x4, x5, x6, x7, x8, x9⟩, y0, y1, y2, y4, y5, y6, y7, y8, y9⟩ := HC W3 g4
  have GG : Hid (w.grownBy W3 none) := grown_trans (unhide G1) g4
  clear HC g3 g4
  cases r1 with
  | false =>
    go_wp2_with fail
    go_ret
    exact ⟨_, rfl, fun e => absurd (unhide Hr1 e) (by simp), unhide GG⟩
  | true =>
    cases r2 with
    | false =>
      go_wp2_with fail
      go_ret
      exact ⟨_, rfl, fun e => absurd (unhide Hr2 e) (by simp), unhide GG⟩
    | true =>
      cases p0 with
      | false =>
        go_wp2_with fail
        go_ret
        exact ⟨_, rfl, fun e => absurd (unhide Hp0 e) (by simp), unhide GG⟩
      | true =>
        cases p1 with
        | false =>
          go_wp2_with fail
          go_ret
          exact ⟨_, rfl, fun e => absurd (unhide Hp1 e) (by simp), unhide GG⟩
        | true =>
          cases p2 with
          | false =>
            go_wp2_with fail
            go_ret
            exact ⟨_, rfl, fun e => absurd (unhide Hp2 e) (by simp), unhide GG⟩
          | true =>
            cases p3 with
            | false =>
              go_wp2_with fail
              go_ret
              exact ⟨_, rfl, fun e => absurd (unhide Hp3 e) (by simp), unhide GG⟩
            | true =>
              cases p4 with
              | false =>
                go_wp2_with fail
                go_ret
                exact ⟨_, rfl, fun e => absurd (unhide Hp4 e) (by simp), unhide GG⟩
              | true =>
                cases p5 with
                | false =>
                  go_wp2_with fail
                  go_ret
                  exact ⟨_, rfl, fun e => absurd (unhide Hp5 e) (by simp), unhide GG⟩
                | true =>
                  cases p6 with
                  | false =>
                    go_wp2_with fail
                    go_ret
                    exact ⟨_, rfl, fun e => absurd (unhide Hp6 e) (by simp), unhide GG⟩
                  | true =>
                    cases p7 with
                    | false =>
                      go_wp2_with fail
                      go_ret
                      exact ⟨_, rfl, fun e => absurd (unhide Hp7 e) (by simp), unhide GG⟩
                    | true =>
                      go_wp2_with fail
                      go_ret
                      exact ⟨_, rfl, fun _ => rfl, unhide GG⟩
end Go.Proofs.Ytdalekjpjnhboaa
