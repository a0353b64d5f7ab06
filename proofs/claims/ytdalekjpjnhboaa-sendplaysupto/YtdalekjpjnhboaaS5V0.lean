/- View. -/
import Derived.Test.YtdalekjpjnhboaaS5F
namespace Go.Proofs.Ytdalekjpjnhboaa
open Go.RowKit
set_option linter.unusedVariables false
set_option maxHeartbeats 2000000
set_option maxRecDepth 100000

def viewC (S : Sd) (va vl : Value) : Array Value := #[.int .i64 (wr S), .int .i64 S.sent, .int .i64 S.base, va, vl, .bool S.ended, .bool (decide (S.fin = 1) || decide (S.fin = 3)), .bool (decide (S.fin = 3)), .bool S.stopped, .bool (doneB S)]
theorem ne_r {W W1 : World} {v : Value} {r : Nat} (f : Fresh W1 v) (h : W1.heap.size = W.heap.size + 1) (hr : r = W.heap.size) : v.ownBlock = none ∨ v.ownBlock ≠ some r := .inr fun e => by have := f r e; omega
theorem gr_new {W W1 X Y : World} {r : Nat} (g1 : W.grownBy W1 none) (g2 : W1.grownBy X none) (g3 : X.grownBy Y (some r)) (hr : r = W.heap.size) : W.grownBy Y none :=
  have g := grown_trans g1 g2
  ⟨g3.os.trans g.os, g3.tape.trans g.tape, g3.output.trans g.output, Nat.le_trans g.size g3.size, fun k hk _ => (g3.block k (Nat.lt_of_lt_of_le hk g.size) (fun e => by cases e; omega)).trans (g.block k hk (by simp))⟩
def view0 : Array Value := #[.int .i64 0, .int .i64 0, .int .i64 0, nilS, nilS, .bool false, .bool false, .bool false, .bool false, .bool false]
theorem Try.sizeV : (Try.prog.info? 36).map (·.size) = some 10 := by kernel_rfl

/-- Ten cells are written. -/
def put10 (X : World) (r : Nat) (v0 v1 v2 v3 v4 v5 v6 v7 v8 v9 : Value) : World := (((((((((X.setCell ⟨r, 0, none⟩ v0).setCell ⟨r, 1, none⟩ v1).setCell ⟨r, 2, none⟩ v2).setCell ⟨r, 3, none⟩ v3).setCell ⟨r, 4, none⟩ v4).setCell ⟨r, 5, none⟩ v5).setCell ⟨r, 6, none⟩ v6).setCell ⟨r, 7, none⟩ v7).setCell ⟨r, 8, none⟩ v8).setCell ⟨r, 9, none⟩ v9
theorem put10_blk {X : World} {r : Nat} {t : TypeId} (h : Blk X r view0 t) (v0 v1 v2 v3 v4 v5 v6 v7 v8 v9 : Value) : Blk (put10 X r v0 v1 v2 v3 v4 v5 v6 v7 v8 v9) r #[v0, v1, v2, v3, v4, v5, v6, v7, v8, v9] t ∧ X.grownBy (put10 X r v0 v1 v2 v3 v4 v5 v6 v7 v8 v9) (some r) := by
  refine ⟨?_, ?_⟩
  · have h0 : Blk _ r #[v0, .int .i64 0, .int .i64 0, nilS, nilS, .bool false, .bool false, .bool false, .bool false, .bool false] t := h.setC 0 v0
    have h1 : Blk _ r #[v0, v1, .int .i64 0, nilS, nilS, .bool false, .bool false, .bool false, .bool false, .bool false] t := h0.setC 1 v1
    have h2 : Blk _ r #[v0, v1, v2, nilS, nilS, .bool false, .bool false, .bool false, .bool false, .bool false] t := h1.setC 2 v2
    have h3 : Blk _ r #[v0, v1, v2, v3, nilS, .bool false, .bool false, .bool false, .bool false, .bool false] t := h2.setC 3 v3
    have h4 : Blk _ r #[v0, v1, v2, v3, v4, .bool false, .bool false, .bool false, .bool false, .bool false] t := h3.setC 4 v4
    have h5 : Blk _ r #[v0, v1, v2, v3, v4, v5, .bool false, .bool false, .bool false, .bool false] t := h4.setC 5 v5
    have h6 : Blk _ r #[v0, v1, v2, v3, v4, v5, v6, .bool false, .bool false, .bool false] t := h5.setC 6 v6
    have h7 : Blk _ r #[v0, v1, v2, v3, v4, v5, v6, v7, .bool false, .bool false] t := h6.setC 7 v7
    have h8 : Blk _ r #[v0, v1, v2, v3, v4, v5, v6, v7, v8, .bool false] t := h7.setC 8 v8
    have h9 : Blk _ r #[v0, v1, v2, v3, v4, v5, v6, v7, v8, v9] t := h8.setC 9 v9
    exact h9
  · exact grown_at (grown_at (grown_at (grown_at (grown_at (grown_at (grown_at (grown_at (grown_at (grown_at (grown_any (grown_self X none) r) 0 v0) 1 v1) 2 v2) 3 v3) 4 v4) 5 v5) 6 v6) 7 v7) 8 v8) 9 v9

end Go.Proofs.Ytdalekjpjnhboaa
