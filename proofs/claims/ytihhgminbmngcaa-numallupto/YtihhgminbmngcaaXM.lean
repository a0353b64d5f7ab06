import Derived.Test.YtihhgminbmngcaaXL
import Derived.BigRegion
import Derived.RegionTactic
namespace Go.Proofs.Ytihhgminbmngcaa
open Go.RowKit
set_option linter.unusedVariables false
set_option maxRecDepth 100000

/-- Bytes that are lent: their two rows, whole. -/
abbrev Lent (w0 : World) (B : Nat) (wr : World) (g n gf cf gw cw : Nat) (F W : List Int) : Prop :=
  LP w0 B wr g n (.slice (some ⟨gf, 0, none⟩) (n + 80) cf) (.slice (some ⟨gw, 0, none⟩) (n + 80) cw) (n + 80) (n + 80) F W

theorem vals_set (l : List Int) (j : Nat) (x : Int) : vals (l.set j x) = (vals l).set j (.int .u8 x) := by simp [vals, List.map_set]
theorem vals_get (l : List Int) (j : Nat) (h : j < l.length) : (vals l)[j]? = some (.int .u8 (l.getD j 0)) := by simp [vals, List.getD, h]

section
variable {w0 wr : World} {B g n gf cf gw cw : Nat} {F W : List Int}

theorem Lent.flen (h : Lent w0 B wr g n gf cf gw cw F W) : F.length = n + 80 := by have := h.full.1; simpa [vals] using this
theorem Lent.wlen (h : Lent w0 B wr g n gf cf gw cw F W) : W.length = n + 80 := by have := h.was.1; simpa [vals] using this
theorem Lent.fcell (h : Lent w0 B wr g n gf cf gw cw F W) (j : Nat) (hj : j < n + 80) : wr.cell? ⟨gf, j, none⟩ = some (.int .u8 (F.getD j 0)) ∧ wr.frozen? ⟨gf, j, none⟩ = false :=
  ⟨by rw [h.full.cellAt j (by omega), vals_get F j (by rw [h.flen]; exact hj)], h.full.frozenAt j⟩
theorem Lent.wcell (h : Lent w0 B wr g n gf cf gw cw F W) (j : Nat) (hj : j < n + 80) : wr.cell? ⟨gw, j, none⟩ = some (.int .u8 (W.getD j 0)) ∧ wr.frozen? ⟨gw, j, none⟩ = false :=
  ⟨by rw [h.was.cellAt j (by omega), vals_get W j (by rw [h.wlen]; exact hj)], h.was.frozenAt j⟩
theorem Lent.ne (h : Lent w0 B wr g n gf cf gw cw F W) : gf ≠ gw ∧ g < gf ∧ g < gw ∧ n + 80 ≤ cf ∧ cf ≤ maxLen ∧ n + 80 ≤ cw ∧ cw ≤ maxLen := by
  refine ⟨?_, (h.full.lt gf rfl).1, (h.was.lt gw rfl).1, ?_⟩
  · intro e
    rcases h.sep with hs | hs
    · simp [Value.ownBlock] at hs
    · exact hs (by simp [Value.ownBlock, e])
  · obtain ⟨a, b, e, _, _, h1, h2⟩ := ownsRow_open h.full (by omega)
    obtain ⟨c, d, e', _, _, h3, h4⟩ := ownsRow_open h.was (by omega)
    simp at e e'
    omega

theorem Lent.setF (h : Lent w0 B wr g n gf cf gw cw F W) (j : Nat) (x : Int) : Lent w0 B (wr.setCell ⟨gf, j, none⟩ (.int .u8 x)) g n gf cf gw cw (F.set j x) W := by
  obtain ⟨hne, h1, h2, _⟩ := h.ne
  have st := h.full.stored j (.int .u8 x)
  refine ⟨?_, by rw [vals_set]; exact st.1, h.was.kept st.2 (.inr (by simp [Value.ownBlock]; omega)), h.sep, h.bel.setCell (by have := h.low; show B ≤ gf; omega) _, h.low⟩
  rw [heap_setCell_other _ _ _ _ (by show g ≠ gf; omega)]
  exact h.blk
theorem Lent.setW (h : Lent w0 B wr g n gf cf gw cw F W) (j : Nat) (x : Int) : Lent w0 B (wr.setCell ⟨gw, j, none⟩ (.int .u8 x)) g n gf cf gw cw F (W.set j x) := by
  obtain ⟨hne, h1, h2, _⟩ := h.ne
  have st := h.was.stored j (.int .u8 x)
  refine ⟨?_, h.full.kept st.2 (.inr (by simp [Value.ownBlock]; omega)), by rw [vals_set]; exact st.1, h.sep, h.bel.setCell (by have := h.low; show B ≤ gw; omega) _, h.low⟩
  rw [heap_setCell_other _ _ _ _ (by show g ≠ gw; omega)]
  exact h.blk
theorem Lent.drewN (h : Lent w0 B wr g n gf cf gw cw F W) (q : Nat) : Lent w0 B (wr.drewN q) g n gf cf gw cw F W := ⟨h.blk, h.full, h.was, h.sep, bel_drewN h.bel q, h.low⟩
/-- New blocks behind it turn nothing. -/
theorem Lent.below {w' : World} (h : Lent w0 B wr g n gf cf gw cw F W) (hb : Below wr.heap.size wr w') : Lent w0 B w' g n gf cf gw cw F W := by
  have l1 := h.lt
  have l2 := (h.full.lt gf rfl).2
  have l3 := (h.was.lt gw rfl).2
  have gr : wr.grownBy w' none := ⟨hb.os, hb.tape, hb.output, hb.size, fun k hk _ => hb.block k hk⟩
  exact ⟨by rw [hb.block g l1]; exact h.blk, h.full.kept gr (.inr (by simp [Value.ownBlock])), h.was.kept gr (.inr (by simp [Value.ownBlock])), h.sep, h.bel.trans (hb.mono (by have := h.low; omega)), h.low⟩
theorem Lent.rd (h : Lent w0 B wr g n gf cf gw cw F W) (hF : ∀ x ∈ F, IsB x) : Rd wr (some ⟨gf, 0, none⟩) (F.take n) := by
  refine ⟨fun x hx => hF x (List.mem_of_mem_take hx), fun _ => ⟨gf, 0, rfl, fun i hi => ?_⟩⟩
  have hi' : i < n := by simp at hi; omega
  rw [Nat.zero_add, (h.fcell i (by omega)).1]
  congr 2
  simp [List.getD, hi']
theorem Lent.tlen (h : Lent w0 B wr g n gf cf gw cw F W) : (F.take n).length = n := by have := h.flen; simp; omega
end

set_option maxHeartbeats 1600000 in
theorem bytes_any (w0 wr : World) (B g n gf cf gw cw : Nat) (F W : List Int) (h : Lent w0 B wr g n gf cf gw cw F W) :
    Calls Try.prog 7 #[.pointer (some ⟨g, 0, none⟩)] wr fun e w' => e = .returned (.slice (some ⟨gf, 0, none⟩) n cf) ∧ ∃ q, w' = wr.drewN q := by
  obtain ⟨c0, c1, c2, f0, f1⟩ := h.cells
  obtain ⟨_, _, _, h1, h2, _, _⟩ := h.ne
  unfold maxLen at h2
  clear h
  go_enter Try.func7, Try.ntmps7
  go_wp2
  go_quiet (fail)
  all_goals go_wp2
  all_goals go_ret
  all_goals exact ⟨rfl, _, rfl⟩

set_option maxHeartbeats 1600000 in
theorem kept_any (w0 wr : World) (B g n gf cf gw cw : Nat) (F : List Int) (h : Lent w0 B wr g n gf cf gw cw F F) :
    Calls Try.prog 11 #[.pointer (some ⟨g, 0, none⟩)] wr fun e w' => e = .returned (.bool true) ∧ ∃ q, w' = wr.drewN q := by
  obtain ⟨c0, c1, c2, f0, f1⟩ := h.cells
  obtain ⟨_, _, _, h1, h2, h3, h4⟩ := h.ne
  unfold maxLen at h2 h4
  have H := hide h
  clear h
  go_enter Try.func11, Try.ntmps11
  go_wp2
  go_loopw [3] (fun i w' => ∃ (k q : Nat), k ≤ n + 80 ∧ i = .int .i64 k ∧ w' = wr.drewN q) (fun i _ => n + 80 - (intOf i).toNat)
  case atStart => exact ⟨0, 0, Nat.zero_le _, rfl, rfl⟩
  case round =>
    obtain ⟨k, q, hk, rfl, rfl⟩ := hrel
    by_cases hlt : k < n + 80
    · have k1 := ((unhide H).fcell k hlt).1
      have k2 := ((unhide H).wcell k hlt).1
      generalize F.getD k 0 = x at k1 k2
      go_wp2
      go_quiet (fail)
      all_goals go_wp2
      go_roundw
      case rel => exact ⟨k + 1, _, by omega, by go_num, rfl⟩
      case measure => simp [intOf]; omega
    · go_wp2
      go_ret
      exact ⟨rfl, _, rfl⟩
end Go.Proofs.Ytihhgminbmngcaa
