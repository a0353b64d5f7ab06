import Derived.Test.YtpcnpdippnljpaaKC
import Derived.Laws.BytesArg
namespace Go.Proofs.Ytpcnpdippnljpaa
open Go.RowKit
set_option maxRecDepth 100000
set_option linter.unusedVariables false

theorem rd_at {w : World} {g : Nat} {l : List Int} (h : w.heap[g]? = some (bts l)) (hb : ∀ x ∈ l, IsB x) : Rd w (some ⟨g, 0, none⟩) l := by
  refine ⟨hb, fun _ => ⟨g, 0, rfl, fun i hi => ?_⟩⟩
  unfold World.cell?
  rw [h]
  simp [bts, List.getD, hi]

theorem rd_drew {w : World} {a : Option Addr} {l : List Int} (h : Rd w a l) (n : Nat) : Rd (w.drewN n) a l := h

theorem conv_rd (w : World) (a : Option Addr) (l : List Int) (n cap : Nat) (hn : l.length = n) (hr : Rd w a l) :
    (convert 27 9 (.slice a n cap)).run Try.prog w = .ok (.string (strOfNums l)) w := by
  subst hn
  by_cases h : l = []
  · subst h
    rw [run_convert_bytes_string w 27 9 5 _ _ cap Try.underlying27 Try.underlying5 Try.underlying9]
    cases a <;> simp [Conv.bytesToString, loadCells]
    all_goals rfl
  · obtain ⟨b, off, rfl, hc⟩ := hr.2 h
    exact run_convert_bytes_arg w 27 5 Try.underlying27 Try.underlying5 b off _ cap l rfl hc 9 Try.underlying9

theorem bel_drewN {B : Nat} {a w : World} (h : Below B a w) (n : Nat) : Below B a (w.drewN n) := ⟨h.os, h.tape, h.output, h.size, h.block⟩
theorem str_toList (l : List Int) : (strOfNums l).toList = l.map fun n => UInt8.ofNat n.toNat := by
  rw [ByteArray.toList_eq]
  rfl

end Go.Proofs.Ytpcnpdippnljpaa
