/- Add's closures; keepBound; New; Count; Has. -/
import Derived.Test.YtnflbefbgcbdfaaGreatSU
namespace Go.Proofs.YtnflbefbgcbdfaaGreat
set_option maxRecDepth 100000
open Go.RowKit
set_option linter.unusedVariables false
set_option maxHeartbeats 400000

theorem add1 (bs bx b g c n i : Nat) (x hi : Int) (w : World) (hn : i < n) (hs : w.cell? ⟨bs, 0, none⟩ = some (.pointer (some ⟨b, 0, none⟩))) (hv : w.cell? ⟨b, 1, none⟩ = some (.slice (some ⟨g, 0, none⟩) n c)) (hx : w.cell? ⟨bx, 0, none⟩ = some (.int .i64 x)) (hc : w.cell? ⟨g, i * 2 + 1, none⟩ = some (.int .i64 hi))
    (h1 : -9223372036854775808 ≤ x ∧ x ≤ 9223372036854775807) (h2 : -9223372036854775808 ≤ hi ∧ hi ≤ 9223372036854775807) :
    Calls Tryz.prog 67 (#[.int .i64 i] ++ #[.pointer (some ⟨bs, 0, none⟩), .pointer (some ⟨bx, 0, none⟩)]) w fun e w' => e = .returned (.bool (!decide (hi + 1 < x))) ∧ ∃ q, w' = w.drewN q := by
  have hap := fun W => apart_any hi x W h2 h1
  have hiz : (i : Int) < (n : Int) := by omega
  clear h1 h2
  go_enter Tryz.func67, Tryz.ntmps67
  go_wp2
  go_quiet (exact Calls.quiet_of_same (hap _))
  all_goals go_wp2
  all_goals go_ret
  all_goals exact ⟨rfl, _, rfl⟩

theorem add2 (bs bx b g c n i : Nat) (x lo : Int) (w : World) (hn : i < n) (hs : w.cell? ⟨bs, 0, none⟩ = some (.pointer (some ⟨b, 0, none⟩))) (hv : w.cell? ⟨b, 1, none⟩ = some (.slice (some ⟨g, 0, none⟩) n c)) (hx : w.cell? ⟨bx, 0, none⟩ = some (.int .i64 x)) (hc : w.cell? ⟨g, i * 2, none⟩ = some (.int .i64 lo))
    (h1 : -9223372036854775808 ≤ x ∧ x ≤ 9223372036854775807) (h2 : -9223372036854775808 ≤ lo ∧ lo ≤ 9223372036854775807) :
    Calls Tryz.prog 69 (#[.int .i64 i] ++ #[.pointer (some ⟨bx, 0, none⟩), .pointer (some ⟨bs, 0, none⟩)]) w fun e w' => e = .returned (.bool (decide (x + 1 < lo))) ∧ ∃ q, w' = w.drewN q := by
  have hap := fun W => apart_any x lo W h1 h2
  have hiz : (i : Int) < (n : Int) := by omega
  clear h1 h2
  go_enter Tryz.func69, Tryz.ntmps69
  go_wp2
  go_quiet (exact Calls.quiet_of_same (hap _))
  all_goals go_wp2
  all_goals go_ret
  all_goals exact ⟨rfl, _, rfl⟩

theorem new_any (most : Int) (w : World) (h : 0 ≤ most) :
    Calls Tryz.prog 20 #[.int .i64 most] w fun e w' => e = .returned (.tuple #[.pointer (some ⟨w.heap.size, 0, none⟩), .int .i64 0]) ∧ SetAt w' w.heap.size most (.slice none 0 0) [] ∧ w.grownBy w' none := by
  have hd : decide (most < 0) = false := decide_eq_false (by omega)
  go_enter Tryz.func20, Tryz.ntmps20
  go_wp2
  all_goals go_ret2
  all_goals exact ⟨rfl, ⟨heap_alloc_new w _, row_nil _⟩, grown_alloc _ _⟩

theorem setAt_write {w w' : World} {b : Nat} {most : Int} {v v' : Value} {L L' : List Sp} (h : SetAt w b most v L) (hr : Row w' v' L') (hm : Moved w w' v v') :
    SetAt (w'.setCell ⟨b, 1, none⟩ v') b most v' L' ∧ w'.heap[b]? = some (.cells #[.int .i64 most, v] 116 (0, 0)) := by
  have hb : w'.heap[b]? = some (.cells #[.int .i64 most, v] 116 (0, 0)) := by
    rcases hm with ⟨_, h2⟩ | ⟨_, h2, _⟩
    · rw [h2.block b (heap_some_lt h.blk) (fun e => h.ne e.symm)]; exact h.blk
    · rw [h2.block b (heap_some_lt h.blk) (by simp)]; exact h.blk
  refine ⟨?_, hb⟩
  rw [setCell_eq_setRow w' b 1 _ _ _ v' hb]
  refine ⟨by rw [setRow_heap w' b _ _ _ _ hb]; rfl, hr.keepBut (grown_setRow w' b _) ?_⟩
  rcases Row.at hr with ⟨rfl, _⟩ | ⟨g, c, sp, rfl, hR⟩
  · exact .inl rfl
  · refine .inr fun e => ?_
    injection e with e
    have e' : g = b := e
    have h1 := hR.1
    rw [e', hb] at h1
    injection h1 with h1
    injection h1 with _ h1
    exact absurd h1 (by decide)

/-- What may have changed: the set's own block, its row's, and what is new. -/
structure Touch (w w' : World) (b : Nat) (v : Value) : Prop where
  os : w'.os = w.os
  tape : w'.tape = w.tape
  output : w'.output = w.output
  size : w.heap.size ≤ w'.heap.size
  block : ∀ k, k < w.heap.size → k ≠ b → some k ≠ v.ownBlock → w'.heap[k]? = w.heap[k]?

theorem Touch.of {w w' : World} (b : Nat) (v : Value) (h : w.grownBy w' none) : Touch w w' b v := ⟨h.os, h.tape, h.output, h.size, fun k hk _ _ => h.block k hk (by simp)⟩
theorem Touch.before {w w1 w' : World} {b : Nat} {v : Value} (h : w.grownBy w1 none) (t : Touch w1 w' b v) : Touch w w' b v :=
  ⟨t.os.trans h.os, t.tape.trans h.tape, t.output.trans h.output, Nat.le_trans h.size t.size, fun k hk h1 h2 => (t.block k (Nat.lt_of_lt_of_le hk h.size) h1 h2).trans (h.block k hk (by simp))⟩
theorem Touch.write {w w' : World} {b : Nat} {v v' : Value} (hm : Moved w w' v v') (x : Value) : Touch w (w'.setCell ⟨b, 1, none⟩ x) b v := by
  have hc : ∀ k, k ≠ b → (w'.setCell ⟨b, 1, none⟩ x).heap[k]? = w'.heap[k]? := fun k hk => heap_setCell_other w' _ k x hk
  have hs : (w'.setCell ⟨b, 1, none⟩ x).heap.size = w'.heap.size := by simp
  rcases hm with ⟨_, h2⟩ | ⟨_, h2, _⟩
  · exact ⟨h2.os, h2.tape, h2.output, by rw [hs]; exact h2.size, fun k hk h3 h4 => by rw [hc k h3]; exact h2.block k hk h4⟩
  · exact ⟨h2.os, h2.tape, h2.output, by rw [hs]; exact h2.size, fun k hk h3 h4 => by rw [hc k h3]; exact h2.block k hk (by simp)⟩
/-- Two steps behind one another: the row may have moved. -/
theorem Touch.trans {w w1 w' : World} {b : Nat} {v v1 : Value} (h : Touch w w1 b v) (hv : v1.ownBlock = v.ownBlock ∨ ∀ k, v1.ownBlock = some k → w.heap.size ≤ k) (t : Touch w1 w' b v1) : Touch w w' b v :=
  ⟨t.os.trans h.os, t.tape.trans h.tape, t.output.trans h.output, Nat.le_trans h.size t.size, fun k hk h1 h2 => by
    rw [t.block k (Nat.lt_of_lt_of_le hk h.size) h1 (fun e => by
      rcases hv with hv | hv
      · rw [hv] at e; exact h2 e
      · have := hv k e.symm; omega)]
    exact h.block k hk h1 h2⟩
end Go.Proofs.YtnflbefbgcbdfaaGreat
