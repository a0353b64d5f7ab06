/- fits and takeOut, whatever the part. -/
import Derived.Test.YtggjeamondampaaFQ
namespace Go.Proofs.Ytggjeamondampaa
open Go.RowKit
set_option linter.unusedVariables false
set_option maxRecDepth 100000

/-- A frame as it lies in memory: its lists. -/
structure FrIn (w : World) (f : Fr) (d r : Value) : Prop where
  data : ∃ a c, d = .slice a f.data.length c ∧ f.data.length ≤ c ∧ c ≤ 9223372036854775807
  runs : ∃ a c, r = .slice a f.runs.length c ∧ RdR w a f.runs ∧ f.runs.length ≤ c ∧ c ≤ 9223372036854775807
  runs64 : ∀ s ∈ f.runs, -9223372036854775808 ≤ s.1 ∧ s.1 ≤ 9223372036854775807

theorem FrIn.keep {w W : World} {f : Fr} {d r : Value} (h : FrIn w f d r) (g : w.grownBy W none) : FrIn W f d r := by
  obtain ⟨a, c, e, hr, l1, l2⟩ := h.runs
  refine ⟨h.data, ⟨a, c, e, fun hne => ?_, l1, l2⟩, h.runs64⟩
  obtain ⟨b, off, e, hcs⟩ := hr hne
  exact ⟨b, off, e, fun i hi => ⟨cell_grown (hcs i hi).1 g, cell_grown (hcs i hi).2 g⟩⟩

theorem fits_any (f : Fr) (d r : Value) (p : Nat) (w : World) (h : FrIn w f d r) (hp : p ≤ 14) : Calls Try.prog 87 #[f.val d r, .int .i64 p] w fun e w' => e = .returned (.bool (fitsW f p)) ∧ w.grownBy w' none := by
  obtain ⟨a1, c1, rfl, l1, l2⟩ := h.data
  obtain ⟨a2, c2, rfl, hr, l3, l4⟩ := h.runs
  rcases (by omega : p = 0 ∨ p = 1 ∨ p = 2 ∨ p = 3 ∨ p = 4 ∨ p = 5 ∨ p = 6 ∨ p = 7 ∨ p = 8 ∨ p = 9 ∨ p = 10 ∨ p = 11 ∨ p = 12 ∨ p = 13 ∨ p = 14) with rfl | rfl | rfl | rfl | rfl | rfl | rfl | rfl | rfl | rfl | rfl | rfl | rfl | rfl | rfl
  · exact (fits_flat f _ _ 0 w (by omega))
  · exact (fits_1 f _ _ w)
  · exact (fits_2 f _ _ w)
  · exact (fits_3 f _ _ w)
  · exact (fits_4 f _ _ w)
  · exact (fits_5 f _ _ w)
  · exact (fits_6 f _ _ w)
  · exact (fits_7 f _ _ w)
  · exact (fits_flat f _ _ 8 w (by omega))
  · exact (fits_runs f _ a2 c2 w hr ⟨l3, l4⟩ h.runs64)
  · exact (fits_counts f _ _ w)
  · exact (fits_data f _ a1 c1 11 w (by omega))
  · exact (fits_data f _ a1 c1 12 w (by omega))
  · exact (fits_eight f _ a1 c1 w)
  · exact (fits_zeros f _ _ w)

theorem takeOut_any (g : Nat) (f : Fr) (d r : Value) (p : Nat) (w : World) (h : Blk w g (f.cs d r) 26) (hp : p ≤ 14) : Calls Try.prog 88 #[.pointer (some ⟨g, 0, none⟩), .int .i64 p] w fun e w' => e = .returned (.tuple #[]) ∧ Blk w' g ((takeF f p).cs (takeD p d) (takeR p r)) 26 ∧ w.grownBy w' (some g) := by
  rcases (by omega : p = 0 ∨ p = 1 ∨ p = 2 ∨ p = 3 ∨ p = 4 ∨ p = 5 ∨ p = 6 ∨ p = 7 ∨ p = 8 ∨ p = 9 ∨ p = 10 ∨ p = 11 ∨ p = 12 ∨ p = 13 ∨ p = 14) with rfl | rfl | rfl | rfl | rfl | rfl | rfl | rfl | rfl | rfl | rfl | rfl | rfl | rfl | rfl
  · exact takeOut_0 g f d r w h
  · exact takeOut_1 g f d r w h
  · exact takeOut_2 g f d r w h
  · exact takeOut_3 g f d r w h
  · exact takeOut_4 g f d r w h
  · exact takeOut_5 g f d r w h
  · exact takeOut_6 g f d r w h
  · exact takeOut_7 g f d r w h
  · exact takeOut_8 g f d r w h
  · exact takeOut_9 g f d r w h
  · exact takeOut_10 g f d r w h
  · exact takeOut_11 g f d r w h
  · exact takeOut_12 g f d r w h
  · exact takeOut_13 g f d r w h
  · exact takeOut_14 g f d r w h

end Go.Proofs.Ytggjeamondampaa
