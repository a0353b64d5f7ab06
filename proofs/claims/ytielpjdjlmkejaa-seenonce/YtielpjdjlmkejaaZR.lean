/- shown: the document's first examples. -/
import Derived.Test.YtielpjdjlmkejaaZQ
import Derived.Laws.StructEq
namespace Go.Proofs.Ytielpjdjlmkejaa
open Go.RowKit
set_option linter.unusedVariables false
set_option maxRecDepth 100000
set_option maxHeartbeats 2000000

theorem frA_cells {W : World} {g : Nat} {rv : Value} {d : Int} {m : Bool} {c0 c2 : Int} (h : Blk W g (frA rv d m c0 c2) 48) : W.cell? ⟨g, 0, none⟩ = some (.int .i64 2) ∧ W.cell? ⟨g, 11, none⟩ = some (.int .i64 d) ∧ W.cell? ⟨g, 12, none⟩ = some rv :=
  ⟨h.cell 0 _ rfl, h.cell 11 _ rfl, h.cell 12 _ rfl⟩

theorem shown_ok (w : World) : Calls Try.prog 6 #[] w fun e w' => e = .returned (.bool true) ∧ w.grownBy w' none := by
  have hnew := qs_new (grown_self w none) (space := 2) (delay := 25000) (by decide)
  have ok0 := sok0 (space := 2) (delay := 25000) (by decide)
  obtain ⟨s1, e1⟩ : ∃ s1, s1 = (⟨2, 25000, 100, [], -1, -1, 0, 0, 0, false, never⟩ : Sn) := ⟨_, rfl⟩
  obtain ⟨s2, e2⟩ : ∃ s2, s2 = (⟨2, 25000, 1000, [(7, 7)], -1, 7, 1000, 0, 0, true, 26000⟩ : Sn) := ⟨_, rfl⟩
  obtain ⟨s3, e3⟩ : ∃ s3, s3 = (⟨2, 25000, 1010, [(7, 7)], -1, 7, 1000, 0, 0, true, 26000⟩ : Sn) := ⟨_, rfl⟩
  obtain ⟨s4, e4⟩ : ∃ s4, s4 = (⟨2, 25000, 1020, [(7, 8)], -1, 8, 1020, 0, 0, true, 26000⟩ : Sn) := ⟨_, rfl⟩
  obtain ⟨s5, e5⟩ : ∃ s5, s5 = (⟨2, 25000, 1820, [(7, 8)], -1, 8, 1020, 0, 0, false, never⟩ : Sn) := ⟨_, rfl⟩
  have a1 : ackF 100 (sn0 2 25000) = s1 := by rw [e1]; rfl
  have a2 : freshF (goF 1000 s1) 7 = true ∧ takeF 1000 7 true 0 s1 = s2 := by rw [e1, e2]; exact ⟨rfl, rfl⟩
  have a3 : freshF (goF 1010 s2) 7 = false ∧ takeF 1010 7 true 0 s2 = s3 := by rw [e2, e3]; exact ⟨rfl, rfl⟩
  have a4 : freshF (goF 1020 s3) 8 = true ∧ takeF 1020 8 false 0 s3 = s4 := by rw [e3, e4]; exact ⟨rfl, rfl⟩
  have a5 : ackF 1820 s4 = s5 := by rw [e4, e5]; rfl
  have ok1 : SOk s1 := a1 ▸ sok_ack ok0 100
  have ok2 : SOk s2 := a2.2 ▸ sok_take ok1 1000 7 true 0
  have ok3 : SOk s3 := a3.2 ▸ sok_take ok2 1010 7 true 0
  have ok4 : SOk s4 := a4.2 ▸ sok_take ok3 1020 8 false 0
  have cb : Cb 0 s1 ∧ Cb 0 s2 ∧ Cb 0 s3 := by rw [e1, e2, e3]; exact ⟨⟨by decide, by decide⟩, ⟨by decide, by decide⟩, ⟨by decide, by decide⟩⟩
  have K1 := fun wr (h : QS w wr (w.heap.size + 1) (sn0 2 25000)) => qs_ack h ok0 100 3
  have K2 := fun wr (h : QS w wr (w.heap.size + 1) s1) => qs_take h ok1 cb.1 (by decide) 1000 7 true 0
  have K3 := fun wr (h : QS w wr (w.heap.size + 1) s2) => qs_take h ok2 cb.2.1 (by decide) 1010 7 true 0
  have K4 := fun wr (h : QS w wr (w.heap.size + 1) s3) => qs_take h ok3 cb.2.2 (by decide) 1020 8 false 0
  have K5 := fun wr (h : QS w wr (w.heap.size + 1) s4) => qs_ack h ok4 1820 3
  have D2 := fun wr (h : QS w wr (w.heap.size + 1) s2) => qs_due h
  have D5 := fun wr (h : QS w wr (w.heap.size + 1) s5) => qs_due h
  rw [a1] at K1
  rw [a2.1, a2.2] at K2
  rw [a3.1, a3.2] at K3
  rw [a4.1, a4.2] at K4
  rw [a5] at K5
  have d2 : s2.due = 26000 := by rw [e2]
  have d5 : s5.due = 4611686018427387904 := by rw [e5]
  rw [d2] at D2
  rw [d5] at D5
  have l4 : decide (s4.L ≠ []) = true := by rw [e4]; rfl
  have l0 : decide ((sn0 2 25000).L ≠ []) = false := rfl
  rw [l4] at K5
  rw [l0] at K1
  have F5 : Hid (∀ wr wr' cs, AckF s4 1820 3 wr wr' cs → ∃ a c, cs = frA (.slice a 1 c) 100 false 0 0 ∧ Row wr' (.slice a 1 c) [(7, 8)]) := by
    intro wr wr' cs h
    rw [e4] at h
    rcases h with ⟨h1, -⟩ | ⟨-, a, c, h1, h2, -⟩
    · cases h1
    · exact ⟨a, c, h1, h2⟩
  have K1H := hide K1; have K2H := hide K2; have K3H := hide K3; have K4H := hide K4; have K5H := hide K5; have D2H := hide D2; have D5H := hide D5
  clear ok0 ok1 ok2 ok3 ok4 cb a1 a2 a3 a4 a5 e1 e2 e3 e4 e5 d2 d5 l4 l0 K1 K2 K3 K4 K5 D2 D5
  go_enter Try.func6, Try.ntmps6
  go_wp2_with fail
  refine hnew.mono ?_
  rintro e W0 ⟨rfl, q0⟩
  clear hnew
  go_wp2_with fail
  refine (unhide K1H _ q0).mono ?_
  rintro e W1 ⟨cs, rfl, ⟨z1, z2⟩, -, q1⟩
  have q1' := hide (q1.keep (grown_alloc W1 (.cells cs 48)))
  clear q0 q1 K1H
  go_wp2_with (refine wpList_store_row rfl _ _ _ rfl W1.heap.size cs rfl rfl 48 _ (Blk.new W1 fr0 48) (by rw [z1]; exact Try.sizeFr) (by rw [z1]; rfl) z2 ?_; rw [World.setRow_alloc_new])
  refine (unhide K2H _ (unhide q1')).mono ?_
  rintro e W2 ⟨rfl, q2⟩
  clear q1' K2H
  go_wp2_with fail
  refine (unhide D2H _ q2).mono ?_
  rintro e W3 ⟨rfl, rfl⟩
  have q3 := q2
  clear q2 D2H
  go_wp2_with fail
  refine (unhide K3H _ q3).mono ?_
  rintro e W4 ⟨rfl, q4⟩
  clear q3 K3H
  go_wp2_with fail
  refine (unhide K4H _ q4).mono ?_
  rintro e W5 ⟨rfl, q5⟩
  clear q4 K4H
  go_wp2_with fail
  refine (unhide K5H _ q5).mono ?_
  rintro e W6 ⟨cs6, rfl, -, f6, q6⟩
  obtain ⟨a, c, rfl, hrow⟩ := unhide F5 _ _ _ f6
  have g6 := grown_alloc W6 (.cells (frA (.slice a 1 c) 100 false 0 0) 48)
  have q6' := hide (q6.keep g6)
  have b6 := Blk.new W6 (frA (.slice a 1 c) 100 false 0 0) 48
  have B6 := hide b6
  rcases Row.at hrow with ⟨_, h1⟩ | ⟨g, c', sp, h1, hR⟩
  · cases h1
  simp only [Value.slice.injEq] at h1
  obtain ⟨rfl, -, rfl⟩ := h1
  have y0 := cell_grown_none g6 (hR.cell 0 _ rfl)
  have y1 := cell_grown_none g6 (hR.cell 1 _ rfl)
  have Y := hide (And.intro y0 y1)
  have hfr := frA_one (some ⟨g, 0, none⟩) 1 c 100 false 0 0
  have Z1 := hide hfr.1; have Z2 := hide hfr.2
  clear q5 K5H f6 F5 hrow hR q6 y0 y1 g6 b6 hfr z1 z2
  go_wp2_with (refine wpList_store_row rfl _ _ _ rfl W6.heap.size (frA (.slice (some ⟨g, 0, none⟩) 1 c) 100 false 0 0) rfl rfl 48 _ (Blk.new W6 fr0 48) Try.sizeFr rfl (unhide Z2) ?_; rw [World.setRow_alloc_new])
  refine (unhide D5H _ (unhide q6')).mono ?_
  rintro e W7 ⟨rfl, rfl⟩
  have b0 := (frA_cells (unhide B6)).1
  have b11 := (frA_cells (unhide B6)).2.1
  have b12 := (frA_cells (unhide B6)).2.2
  have y0 := (unhide Y).1
  have y1 := (unhide Y).2
  have Q := hide (unhide q6').grown
  clear q6' D5H B6 Y Z1 Z2
  generalize W6.alloc (.cells (frA (.slice (some ⟨g, 0, none⟩) 1 c) 100 false 0 0) 48) = W7 at *
  generalize W6.heap.size = h6 at *
  go_wp2
  all_goals go_ret
  all_goals exact ⟨rfl, unhide Q⟩
end Go.Proofs.Ytielpjdjlmkejaa
