/- The reader: run, zeros, bytes. -/
import Derived.Test.YtpcnpdippnljpaaFIf
namespace Go.Proofs.Ytpcnpdippnljpaa.Kf
open Go.RowKit
set_option linter.unusedVariables false
set_option maxRecDepth 100000
set_option maxHeartbeats 1000000

theorem Rd.far {w W : World} {g : Nat} {a : Option Addr} {l : List Int} (h : Rd w a l) (hg : w.grownBy W (some g)) (hn : ∀ x, a = some x → x.block ≠ g ∧ x.block < w.heap.size) : Rd W a l := by
  refine ⟨h.1, fun hne => ?_⟩
  obtain ⟨b, off, rfl, hc⟩ := h.2 hne
  refine ⟨b, off, rfl, fun i hi => ?_⟩
  obtain ⟨n1, n2⟩ := hn _ rfl
  have e := hg.block b n2 (by simp; exact n1)
  have := hc i hi
  simp only [World.cell?] at this ⊢
  rw [e]; exact this

theorem Blk.far {w W : World} {b g : Nat} {cs : Array Value} {t : TypeId} (h : Blk w b cs t) (hg : w.grownBy W (some g)) (hn : b ≠ g) : Blk W b cs t := (hg.block b h.lt (by simp; exact hn)).trans h
theorem grown_setS {w W : World} {r : Option Nat} (g : w.grownBy W r) (b j : Nat) (v : Value) (hb : w.heap.size ≤ b) : w.grownBy (W.setCell ⟨b, j, none⟩ v) r := by
  refine ⟨g.os, g.tape, g.output, ?_, ?_⟩
  · show w.heap.size ≤ (W.heap.modify b _).size
    rw [Array.size_modify]; exact g.size
  · intro i hi hn
    have e : (W.setCell ⟨b, j, none⟩ v).heap[i]? = W.heap[i]? := by
      simp only [World.setCell, Array.getElem?_modify]
      rw [if_neg (by omega)]
    rw [e]; exact g.block i hi hn
theorem Try.size57 : (Try.prog.info? 118).map (·.size) = some 2 := by kernel_rfl

end Go.Proofs.Ytpcnpdippnljpaa.Kf
