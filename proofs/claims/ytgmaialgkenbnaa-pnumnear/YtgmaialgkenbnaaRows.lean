/-
  No cell of these rows narrows 'for every input' (looked for: loops, veiled, ifaces, maps, wideKeys, modest, calm, conditions, laid).
  DERIVED. THE GIVEN ROWS OF THIS SEAT. 6 by the template 'for every input the law returns true; each argument reads behind the call as it read before'; 0 by the template 'total and deterministic' (their statements: YtgmaialgkenbnaaTotals.lean).
  GIVEN WITH THE SEED: the statements are not yours to turn. If you find one false, say at which input.
  Laid BY PROGRAM, IN A SANDBOX (cutbox-rows.mjs): the forced cells as the released guide's own fill.sh prints them over the translation a2d122c090a68220… (all of the seat's roots in one cut). By AI agents, Wed Nov 11 2026. No macro, syntax, notation, axiom, sorry.
-/
import Derived.Test.YtgmaialgkenbnaaChecked
import GoSem.Claim
import GoSem.ClaimJoined
import GoSem.ClaimMapViews
import Derived.JoinedTies
import Derived.KernelRfl
namespace Go.Proofs.Ytgmaialgkenbnaa
/- THE CELL 'sum', in the pinned program and in every row, IS THE sha256 OF THE DUMP (.gsa) THAT YtgmaialgkenbnaaProg.lean LOADS. Nothing in Lean hashes anything: it is a label: what it is worth is what the hold of that sum in a sandbox is worth. -/
noncomputable def Try.pinned : Pinned := { name := "ytgmaialgkenbnaa", sum := "a2d122c090a682205e9b64522263b422464eeb142007cda17301733bcd695c7a", checked := Try.checked }
namespace Rows
def none {H : Type} : Left H := { results := [], args := [] }

/-- 'portagelaw03.PnumWidths': WHATEVER THE INPUT: true; the input reads as it did. -/
def pnumWidthsSpec : ChangeSpec := { name := "pnumWidths", fn := fun _ => fun
  | [d1, d2] => { results := [.lit (.bool true)], args := [d1, d2] }
  | _ => none }
def pnumWidthsRow : OpenClaim := { program := "ytgmaialgkenbnaa", sum := "a2d122c090a682205e9b64522263b422464eeb142007cda17301733bcd695c7a", func := "portage/portagelaw03.PnumWidths", spec := "pnumWidths", unfollowed := true, recurses := true, apart := false }
def PnumWidthsSaid : Prop := pnumWidthsRow.holds Try.pinned (OpenSpec.ofChange pnumWidthsSpec)

/-- ITS FALSE NEIGHBOUR: 'it returns false'. Refute it at one input. -/
def pnumWidthsWrong : ChangeSpec := { name := "pnumWidths", fn := fun _ => fun
  | [d1, d2] => { results := [.lit (.bool false)], args := [d1, d2] }
  | _ => none }
def PnumWidthsWrongFalsely : Prop := pnumWidthsRow.holds Try.pinned (OpenSpec.ofChange pnumWidthsWrong)

/-- 'portagelaw03.PnumCuts': WHATEVER THE INPUT: true; the input reads as it did. -/
def pnumCutsSpec : ChangeSpec := { name := "pnumCuts", fn := fun _ => fun
  | [d1, d2] => { results := [.lit (.bool true)], args := [d1, d2] }
  | _ => none }
def pnumCutsRow : OpenClaim := { program := "ytgmaialgkenbnaa", sum := "a2d122c090a682205e9b64522263b422464eeb142007cda17301733bcd695c7a", func := "portage/portagelaw03.PnumCuts", spec := "pnumCuts", unfollowed := true, recurses := true, apart := false }
def PnumCutsSaid : Prop := pnumCutsRow.holds Try.pinned (OpenSpec.ofChange pnumCutsSpec)

/-- ITS FALSE NEIGHBOUR: 'it returns false'. Refute it at one input. -/
def pnumCutsWrong : ChangeSpec := { name := "pnumCuts", fn := fun _ => fun
  | [d1, d2] => { results := [.lit (.bool false)], args := [d1, d2] }
  | _ => none }
def PnumCutsWrongFalsely : Prop := pnumCutsRow.holds Try.pinned (OpenSpec.ofChange pnumCutsWrong)

/-- 'portagelaw03.PnumWholes': WHATEVER THE INPUT: true; the input reads as it did. -/
def pnumWholesSpec : ChangeSpec := { name := "pnumWholes", fn := fun _ => fun
  | [d1, d2, d3] => { results := [.lit (.bool true)], args := [d1, d2, d3] }
  | _ => none }
def pnumWholesRow : OpenClaim := { program := "ytgmaialgkenbnaa", sum := "a2d122c090a682205e9b64522263b422464eeb142007cda17301733bcd695c7a", func := "portage/portagelaw03.PnumWholes", spec := "pnumWholes", unfollowed := true, recurses := true, apart := false }
def PnumWholesSaid : Prop := pnumWholesRow.holds Try.pinned (OpenSpec.ofChange pnumWholesSpec)

/-- ITS FALSE NEIGHBOUR: 'it returns false'. Refute it at one input. -/
def pnumWholesWrong : ChangeSpec := { name := "pnumWholes", fn := fun _ => fun
  | [d1, d2, d3] => { results := [.lit (.bool false)], args := [d1, d2, d3] }
  | _ => none }
def PnumWholesWrongFalsely : Prop := pnumWholesRow.holds Try.pinned (OpenSpec.ofChange pnumWholesWrong)

/-- 'portagelaw03.PnumNear': WHATEVER THE INPUT: true; the input reads as it did. -/
def pnumNearSpec : ChangeSpec := { name := "pnumNear", fn := fun _ => fun
  | [d1, d2, d3] => { results := [.lit (.bool true)], args := [d1, d2, d3] }
  | _ => none }
def pnumNearRow : OpenClaim := { program := "ytgmaialgkenbnaa", sum := "a2d122c090a682205e9b64522263b422464eeb142007cda17301733bcd695c7a", func := "portage/portagelaw03.PnumNear", spec := "pnumNear", unfollowed := true, recurses := true, apart := false }
def PnumNearSaid : Prop := pnumNearRow.holds Try.pinned (OpenSpec.ofChange pnumNearSpec)

/-- ITS FALSE NEIGHBOUR: 'it returns false'. Refute it at one input. -/
def pnumNearWrong : ChangeSpec := { name := "pnumNear", fn := fun _ => fun
  | [d1, d2, d3] => { results := [.lit (.bool false)], args := [d1, d2, d3] }
  | _ => none }
def PnumNearWrongFalsely : Prop := pnumNearRow.holds Try.pinned (OpenSpec.ofChange pnumNearWrong)

/-- 'portagelaw03.PnumBack': WHATEVER THE INPUT: true; the input reads as it did. -/
def pnumBackSpec : ChangeSpec := { name := "pnumBack", fn := fun _ => fun
  | [d1, d2, d3, d4] => { results := [.lit (.bool true)], args := [d1, d2, d3, d4] }
  | _ => none }
def pnumBackRow : OpenClaim := { program := "ytgmaialgkenbnaa", sum := "a2d122c090a682205e9b64522263b422464eeb142007cda17301733bcd695c7a", func := "portage/portagelaw03.PnumBack", spec := "pnumBack", unfollowed := true, recurses := true, apart := false }
def PnumBackSaid : Prop := pnumBackRow.holds Try.pinned (OpenSpec.ofChange pnumBackSpec)

/-- ITS FALSE NEIGHBOUR: 'it returns false'. Refute it at one input. -/
def pnumBackWrong : ChangeSpec := { name := "pnumBack", fn := fun _ => fun
  | [d1, d2, d3, d4] => { results := [.lit (.bool false)], args := [d1, d2, d3, d4] }
  | _ => none }
def PnumBackWrongFalsely : Prop := pnumBackRow.holds Try.pinned (OpenSpec.ofChange pnumBackWrong)

/-- 'portagelaw03.PnumRow': WHATEVER THE INPUT: true; the input reads as it did. -/
def pnumRowSpec : ChangeSpec := { name := "pnumRow", fn := fun _ => fun
  | [d1, d2] => { results := [.lit (.bool true)], args := [d1, d2] }
  | _ => none }
def pnumRowRow : OpenClaim := { program := "ytgmaialgkenbnaa", sum := "a2d122c090a682205e9b64522263b422464eeb142007cda17301733bcd695c7a", func := "portage/portagelaw03.PnumRow", spec := "pnumRow", unfollowed := true, recurses := true, apart := false }
def PnumRowSaid : Prop := pnumRowRow.holds Try.pinned (OpenSpec.ofChange pnumRowSpec)

/-- ITS FALSE NEIGHBOUR: 'it returns false'. Refute it at one input. -/
def pnumRowWrong : ChangeSpec := { name := "pnumRow", fn := fun _ => fun
  | [d1, d2] => { results := [.lit (.bool false)], args := [d1, d2] }
  | _ => none }
def PnumRowWrongFalsely : Prop := pnumRowRow.holds Try.pinned (OpenSpec.ofChange pnumRowWrong)

/- THE SECOND FORM. 'bulk': how many values and letters a reading holds, each counted each time it is reached (what is shared counts as often as it is met; a slice's spare places count too). A statement '..UptoSaid' is the law's where the arguments, and the package variables that the reading takes, are together of bulk at most 1048576: NARROWER than '..Said'. Prove '..Said' where nothing that the law and all that it calls make is longer than what came in: it says more and counts as full. Else prove '..UptoSaid'. A law counts once. -/
mutual
def uptoBulk {H : Type} : DataW H → Nat
  | .lit (.string bytes) => bytes.length + 1
  | .lit _ => 1
  | .nil => 1
  | .ptr d => uptoBulk d + 1
  | .slice elems spare => uptoBulkAll elems + uptoBulkAll spare + 1
  | .agg parts => uptoBulkAll parts + 1
  | .iface _ d => uptoBulk d + 1
  | .map entries => uptoBulkEntries entries + 1
  | .held _ => 1
def uptoBulkAll {H : Type} : List (DataW H) → Nat
  | [] => 0
  | d :: r => uptoBulk d + uptoBulkAll r
def uptoBulkEntries {H : Type} : List (Lit × DataW H) → Nat
  | [] => 0
  | x :: r => uptoBulkEntry x + uptoBulkEntries r
def uptoBulkEntry {H : Type} : Lit × DataW H → Nat
  | (.string bytes, d) => bytes.length + uptoBulk d + 1
  | (_, d) => uptoBulk d + 1
 end
def uptoSmall : (H : Type) → List (DataW H) → Bool := fun _ ds => decide (uptoBulkAll ds ≤ 1048576)
def OpenSpec.upto (s : _root_.Go.ChangeSpec) : _root_.Go.OpenSpec := { _root_.Go.OpenSpec.ofChange s with cond := some uptoSmall }

/-- 'portagelaw03.PnumWidths', WHERE WHAT IT READS IS OF BULK AT MOST 1048576: true; the input reads as it did. -/
def pnumWidthsUptoRow : OpenClaim := { program := "ytgmaialgkenbnaa", sum := "a2d122c090a682205e9b64522263b422464eeb142007cda17301733bcd695c7a", func := "portage/portagelaw03.PnumWidths", spec := "pnumWidths", unfollowed := true, recurses := true, apart := false, narrowed := true }
def PnumWidthsUptoSaid : Prop := pnumWidthsUptoRow.holds Try.pinned (OpenSpec.upto pnumWidthsSpec)

/-- 'portagelaw03.PnumCuts', WHERE WHAT IT READS IS OF BULK AT MOST 1048576: true; the input reads as it did. -/
def pnumCutsUptoRow : OpenClaim := { program := "ytgmaialgkenbnaa", sum := "a2d122c090a682205e9b64522263b422464eeb142007cda17301733bcd695c7a", func := "portage/portagelaw03.PnumCuts", spec := "pnumCuts", unfollowed := true, recurses := true, apart := false, narrowed := true }
def PnumCutsUptoSaid : Prop := pnumCutsUptoRow.holds Try.pinned (OpenSpec.upto pnumCutsSpec)

/-- 'portagelaw03.PnumWholes', WHERE WHAT IT READS IS OF BULK AT MOST 1048576: true; the input reads as it did. -/
def pnumWholesUptoRow : OpenClaim := { program := "ytgmaialgkenbnaa", sum := "a2d122c090a682205e9b64522263b422464eeb142007cda17301733bcd695c7a", func := "portage/portagelaw03.PnumWholes", spec := "pnumWholes", unfollowed := true, recurses := true, apart := false, narrowed := true }
def PnumWholesUptoSaid : Prop := pnumWholesUptoRow.holds Try.pinned (OpenSpec.upto pnumWholesSpec)

/-- 'portagelaw03.PnumNear', WHERE WHAT IT READS IS OF BULK AT MOST 1048576: true; the input reads as it did. -/
def pnumNearUptoRow : OpenClaim := { program := "ytgmaialgkenbnaa", sum := "a2d122c090a682205e9b64522263b422464eeb142007cda17301733bcd695c7a", func := "portage/portagelaw03.PnumNear", spec := "pnumNear", unfollowed := true, recurses := true, apart := false, narrowed := true }
def PnumNearUptoSaid : Prop := pnumNearUptoRow.holds Try.pinned (OpenSpec.upto pnumNearSpec)

/-- 'portagelaw03.PnumBack', WHERE WHAT IT READS IS OF BULK AT MOST 1048576: true; the input reads as it did. -/
def pnumBackUptoRow : OpenClaim := { program := "ytgmaialgkenbnaa", sum := "a2d122c090a682205e9b64522263b422464eeb142007cda17301733bcd695c7a", func := "portage/portagelaw03.PnumBack", spec := "pnumBack", unfollowed := true, recurses := true, apart := false, narrowed := true }
def PnumBackUptoSaid : Prop := pnumBackUptoRow.holds Try.pinned (OpenSpec.upto pnumBackSpec)

/-- 'portagelaw03.PnumRow', WHERE WHAT IT READS IS OF BULK AT MOST 1048576: true; the input reads as it did. -/
def pnumRowUptoRow : OpenClaim := { program := "ytgmaialgkenbnaa", sum := "a2d122c090a682205e9b64522263b422464eeb142007cda17301733bcd695c7a", func := "portage/portagelaw03.PnumRow", spec := "pnumRow", unfollowed := true, recurses := true, apart := false, narrowed := true }
def PnumRowUptoSaid : Prop := pnumRowUptoRow.holds Try.pinned (OpenSpec.upto pnumRowSpec)

end Rows
end Go.Proofs.Ytgmaialgkenbnaa
