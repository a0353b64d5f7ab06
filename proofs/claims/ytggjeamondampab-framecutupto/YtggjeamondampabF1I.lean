/- Storing whole frames. -/
import Derived.Test.YtggjeamondampabFH
import Derived.Laws.Tables
namespace Go.Proofs.Ytggjeamondampab
open Go.RowKit
set_option linter.unusedVariables false
/-- A whole frame is stored into the newest block. -/
theorem wpList_store_new {ops : Array Oper} {rest : List Oper} {o : Oper} {a : Act} {Q : Exit → Act → World → Prop} (W : World) (Z C : Array Value) (k : Nat) (hgd : o.guard = none) (t : TypeId) (p x : Operand) (ho : o.op = .store t p x)
    (hk : W.heap.size = k) (hp : a.eval p = .pointer (some ⟨k, 0, none⟩)) (hx : a.eval x = .agg C) (hi : (Try.prog.info? t).map (·.size) = some C.size) (hz : Z.size = C.size) (h1 : C.all (·.oneCell') = true)
    (h : wpList Try.prog ops Q rest (a.put o.dst undef) (W.alloc (.cells C t))) : wpList Try.prog ops Q (o :: rest) a (W.alloc (.cells Z t)) := by
  subst hk
  refine wpList_store_row hgd _ _ _ ho W.heap.size C hp hx t Z (Blk.new W Z t) hi hz h1 ?_
  rw [World.setRow_alloc_new]
  exact h

theorem Try.sizeF (f : Fr) (d r : Value) : (Try.prog.info? 26).map (·.size) = some (f.cs d r).size := Try.size26
abbrev Z17 : Array Value := #[.int .i64 0, .int .i64 0, .int .i64 0, .slice none 0 0, .int .i64 0, .bool false, .bool false, .int .i64 0, .bool false, .int .i64 0, .bool false, .int .i64 0, .slice none 0 0, .bool false, .int .i64 0, .int .i64 0, .int .i64 0]
end Go.Proofs.Ytggjeamondampab
