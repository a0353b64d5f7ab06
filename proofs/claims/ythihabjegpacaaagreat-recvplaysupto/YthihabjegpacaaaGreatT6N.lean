/- recv: place. -/
import Derived.Test.YthihabjegpacaaaGreatT6M
namespace Go.Proofs.YthihabjegpacaaaGreat
open Go.RowKit
set_option linter.unusedVariables false
set_option maxHeartbeats 1000000
set_option maxRecDepth 100000

theorem place1 (ba bx b g q c n i : Nat) (off eo : Int) (w : World) (hn : i < n) (ha : w.cell? ⟨ba, 0, none⟩ = some (ptr b)) (hx : w.cell? ⟨bx, 0, none⟩ = some (.int .i64 off)) (hr : w.cell? ⟨b, 5, none⟩ = some (.slice (some ⟨g, q, none⟩) n c)) (hc : w.cell? ⟨g, q + i * 2, none⟩ = some (.int .i64 eo)) :
    Calls Tryz.prog 64 (#[.int .i64 i] ++ #[.pointer (some ⟨ba, 0, none⟩), .pointer (some ⟨bx, 0, none⟩)]) w fun e w' => e = .returned (.bool (decide (off ≤ eo))) ∧ ∃ q, w' = w.drewN q := by
  have hiz : (i : Int) < (n : Int) := by omega
  go_enter Tryz.func64, Tryz.ntmps64
  go_wp2
  go_quiet (fail)
  all_goals go_wp2
  all_goals go_ret
  all_goals exact ⟨rfl, _, rfl⟩

section
variable {w W : World} {M : Nat → Prop} {b bk : Nat} {vh : Value} {E : List He} {S : Rv}
/-- The row's cells. -/
theorem RA.held (h : RA w M b bk vh E W S) : ∃ a c, vh = .slice a E.length c ∧ E.length ≤ c ∧ c ≤ 9223372036854775807 ∧ (E = [] ∨ ∃ g q, a = some ⟨g, q, none⟩ ∧ ∀ i x, E[i]? = some x → W.cell? ⟨g, q + i * 2, none⟩ = some (.int .i64 x.off) ∧ W.cell? ⟨g, q + i * 2 + 1, none⟩ = some (.slice (some ⟨x.g, 0, none⟩) x.p.length x.p.length)) := by
  rcases h.row with ⟨rfl, h0⟩ | ⟨g, pr, c, sp, rfl, hR⟩
  · have : E = [] := List.map_eq_nil_iff.1 h0
    subst this
    exact ⟨none, 0, rfl, Nat.le_refl _, Nat.zero_le _, .inl rfl⟩
  · have e : (E.map pcOf).length = E.length := List.length_map _
    refine ⟨_, c, by rw [e], by have := hR.2.1; rw [e] at this; omega, by have := hR.2.2; unfold maxLen at this; omega, .inr ⟨g, pr.length, rfl, fun i x hx => ?_⟩⟩
    have hx' : (E.map pcOf)[i]? = some (pcOf x) := by rw [List.getElem?_map, hx]; rfl
    exact ⟨hR.cell _ _ (Pq.cl_off _ i _ hx'), by rw [Nat.add_assoc]; exact hR.cell _ _ (Pq.cl_data _ i _ hx')⟩

theorem place_at (h : RA w M b bk vh E W S) (A D : List He) (hE : E = A ++ D) (off : Int) (hA : ∀ e ∈ A, e.off < off) (hD : ∀ e ∈ D, off ≤ e.off) (hl : E.length ≤ 1000000000000) :
    Calls Tryz.prog 45 #[ptr b, .int .i64 off] W fun e W' => e = .returned (.int .i64 (A.length : Int)) ∧ W.grownBy W' none := by
  obtain ⟨a, c, rfl, hc1, hc2, hrow⟩ := h.held
  obtain ⟨W1, hW1⟩ : ∃ W1, W1 = (W.alloc (.cells #[ptr b] 24)).alloc (.cells #[.int .i64 off] 2) := ⟨_, rfl⟩
  have g1 : W.grownBy W1 none := by rw [hW1]; exact grown_trans (grown_alloc _ _) (grown_alloc _ _)
  have b1 : Blk W1 W.heap.size #[ptr b] 24 := by rw [hW1]; exact (Blk.new _ _ _).alloc _
  have b2 : Blk W1 (W.heap.size + 1) #[.int .i64 off] 2 := by rw [hW1, ← alloc_size W (.cells #[ptr b] 24)]; exact Blk.new _ _ _
  obtain ⟨-, -, -, -, -, c5, -⟩ := (h.grown g1).cells
  have s1 : W1.cell? ⟨W.heap.size, 0, none⟩ = some (ptr b) := b1.cell 0 _ rfl
  have s2 : W1.cell? ⟨W.heap.size + 1, 0, none⟩ = some (.int .i64 off) := b2.cell 0 _ rfl
  have hs := search_any 64 #[.pointer (some ⟨W.heap.size, 0, none⟩), .pointer (some ⟨W.heap.size + 1, 0, none⟩)] E.length A.length W1 (by rw [hE, List.length_append]; omega) (Go.Proofs.enters_of Tryz.func64 (by kernel_rfl) rfl) (by omega) (fun q i hi => by
    obtain ⟨x, hx⟩ : ∃ x, E[i]? = some x := ⟨_, List.getElem?_eq_getElem hi⟩
    have hne : E ≠ [] := fun e => by rw [e] at hi; simp at hi
    obtain ⟨g, q0, rfl, hcell⟩ := hrow.resolve_left hne
    have hx0 := cell_grown (hcell i x hx).1 g1
    refine (place1 W.heap.size (W.heap.size + 1) b g q0 c E.length i off x.off (W1.drewN q) hi s1 s2 c5 hx0).mono ?_
    rintro e w' ⟨rfl, q', rfl⟩
    refine ⟨?_, q', rfl⟩
    have : decide (off ≤ x.off) = decide (A.length ≤ i) := by
      rw [hE] at hx
      by_cases ci : A.length ≤ i
      · rw [List.getElem?_append_right ci] at hx
        have := hD x (List.mem_of_getElem? hx)
        simp [ci, this]
      · rw [List.getElem?_append_left (by omega)] at hx
        have := hA x (List.mem_of_getElem? hx)
        simp [ci]; omega
    rw [this])
  have c5' := (h.grown (grown_alloc W (.cells #[ptr b] 24))).cells.2.2.2.2.2.1
  obtain ⟨-, -, -, -, -, c5w, -⟩ := h.cells
  have G1 := hide g1
  have S1 := s1
  rw [hW1] at S1
  have C5 := c5
  rw [hW1] at C5
  clear hrow h g1 b1 b2 hA hD hE s1 s2 c5 hl
  generalize A.length = k at *
  generalize E.length = n at *
  go_enter Tryz.func45, Tryz.ntmps45
  go_wp2_with fail
  rw [← hW1]
  clear hW1
  refine hs.mono ?_
  rintro e w' ⟨rfl, q, rfl⟩
  clear hs
  go_wp2_with fail
  all_goals go_ret
  all_goals exact ⟨rfl, grown_trans (unhide G1) (grown_drewN _ _)⟩
end
end Go.Proofs.YthihabjegpacaaaGreat
