/- The reader: giveUp, number. -/
import Derived.Test.YtpcnpdippnljpaaFHf
import Derived.Test.YtpcnpdippnljpaaFBf
import Derived.Recover
import Derived.WalkSmall
import Derived.Deep.RegionHeld3
import Derived.BigQuiet
namespace Go.Proofs.Ytpcnpdippnljpaa.Kf
open Go.RowKit
set_option linter.unusedVariables false
set_option maxRecDepth 100000
set_option maxHeartbeats 1000000

/-- A reader's cells. -/
abbrev rdr (b : Value) (at_ why : Int) : Array Value := #[b, .int .i64 at_, .int .i64 why]

theorem grown_at {w W : World} {g : Nat} (h : w.grownBy W (some g)) (j : Nat) (v : Value) : w.grownBy (W.setCell ⟨g, j, none⟩ v) (some g) := by
  refine ⟨h.os, h.tape, h.output, ?_, ?_⟩
  · show w.heap.size ≤ (W.heap.modify g _).size
    rw [Array.size_modify]; exact h.size
  · intro i hi hn
    have e : (W.setCell ⟨g, j, none⟩ v).heap[i]? = W.heap[i]? := by
      simp only [World.setCell, Array.getElem?_modify]
      rw [if_neg (fun e => hn (by rw [e]))]
    rw [e]; exact h.block i hi hn
theorem grown_any {w W : World} (h : w.grownBy W none) (g : Nat) : w.grownBy W (some g) := ⟨h.os, h.tape, h.output, h.size, fun i hi _ => h.block i hi (by simp)⟩

theorem Blk.drewN {w : World} {g : Nat} {cs : Array Value} {t : TypeId} (h : Blk w g cs t) (q : Nat) : Blk (w.drewN q) g cs t := h
theorem grown_drewN {w W : World} {q : Nat} (g : w.grownBy W none) : w.grownBy (W.drewN q) none := ⟨g.os, g.tape, g.output, g.size, g.block⟩
theorem Rd.drew {w : World} {a : Option Addr} {l : List Int} (h : Rd w a l) (q : Nat) : Rd (w.drewN q) a l := h

end Go.Proofs.Ytpcnpdippnljpaa.Kf
