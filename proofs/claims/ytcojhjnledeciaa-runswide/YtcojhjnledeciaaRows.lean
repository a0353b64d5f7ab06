/-
  No cell of these rows narrows 'for every input' (looked for: loops, veiled, ifaces, maps, wideKeys, modest, calm, conditions, laid).
  DERIVED. THE GIVEN ROWS OF THIS SEAT. 6 by the template 'for every input the law returns true; each argument reads behind the call as it read before'; 0 by the template 'total and deterministic' (their statements: YtcojhjnledeciaaTotals.lean).
  GIVEN WITH THE SEED: the statements are not yours to turn. If you find one false, say at which input.
  Laid BY PROGRAM, IN A SANDBOX (cutbox-rows.mjs): the forced cells as the released guide's own fill.sh prints them over the translation f23c0b108c4523e5… (all of the seat's roots in one cut). By AI agents, Wed Nov 11 2026. No macro, syntax, notation, axiom, sorry.
-/
import Derived.Test.YtcojhjnledeciaaChecked
import GoSem.Claim
import GoSem.ClaimJoined
import GoSem.ClaimMapViews
import Derived.JoinedTies
import Derived.KernelRfl
namespace Go.Proofs.Ytcojhjnledeciaa
/- THE CELL 'sum', in the pinned program and in every row, IS THE sha256 OF THE DUMP (.gsa) THAT YtcojhjnledeciaaProg.lean LOADS. Nothing in Lean hashes anything: it is a label: what it is worth is what the hold of that sum in a sandbox is worth. -/
noncomputable def Try.pinned : Pinned := { name := "ytcojhjnledeciaa", sum := "f23c0b108c4523e5fbcb799659ab367c4efda50fdd1c9ad0fb05f00f77802ae8", checked := Try.checked }
namespace Rows
def none {H : Type} : Left H := { results := [], args := [] }

/-- 'portagelaw02.RunsPlays': WHATEVER THE INPUT: true; the input reads as it did. -/
def runsPlaysSpec : ChangeSpec := { name := "runsPlays", fn := fun _ => fun
  | [d1, d2, d3] => { results := [.lit (.bool true)], args := [d1, d2, d3] }
  | _ => none }
def runsPlaysRow : OpenClaim := { program := "ytcojhjnledeciaa", sum := "f23c0b108c4523e5fbcb799659ab367c4efda50fdd1c9ad0fb05f00f77802ae8", func := "portage/portagelaw02.RunsPlays", spec := "runsPlays", inPlace := ["slices.overlaps[portage/api.Span[int64]]"], unfollowed := true, recurses := true, apart := false }
def RunsPlaysSaid : Prop := runsPlaysRow.holds Try.pinned (OpenSpec.ofChange runsPlaysSpec)

/-- ITS FALSE NEIGHBOUR: 'it returns false'. Refute it at one input. -/
def runsPlaysWrong : ChangeSpec := { name := "runsPlays", fn := fun _ => fun
  | [d1, d2, d3] => { results := [.lit (.bool false)], args := [d1, d2, d3] }
  | _ => none }
def RunsPlaysWrongFalsely : Prop := runsPlaysRow.holds Try.pinned (OpenSpec.ofChange runsPlaysWrong)

/-- 'portagelaw02.RunsWide': WHATEVER THE INPUT: true; the input reads as it did. -/
def runsWideSpec : ChangeSpec := { name := "runsWide", fn := fun _ => fun
  | [d1, d2] => { results := [.lit (.bool true)], args := [d1, d2] }
  | _ => none }
def runsWideRow : OpenClaim := { program := "ytcojhjnledeciaa", sum := "f23c0b108c4523e5fbcb799659ab367c4efda50fdd1c9ad0fb05f00f77802ae8", func := "portage/portagelaw02.RunsWide", spec := "runsWide", inPlace := ["slices.overlaps[portage/api.Span[int64]]", "slices.overlaps[portage/api.Span[uint64]]"], unfollowed := true, recurses := true, apart := false }
def RunsWideSaid : Prop := runsWideRow.holds Try.pinned (OpenSpec.ofChange runsWideSpec)

/-- ITS FALSE NEIGHBOUR: 'it returns false'. Refute it at one input. -/
def runsWideWrong : ChangeSpec := { name := "runsWide", fn := fun _ => fun
  | [d1, d2] => { results := [.lit (.bool false)], args := [d1, d2] }
  | _ => none }
def RunsWideWrongFalsely : Prop := runsWideRow.holds Try.pinned (OpenSpec.ofChange runsWideWrong)

/-- 'portagelaw02.RunsApart': WHATEVER THE INPUT: true; the input reads as it did. -/
def runsApartSpec : ChangeSpec := { name := "runsApart", fn := fun _ => fun
  | [d1, d2, d3] => { results := [.lit (.bool true)], args := [d1, d2, d3] }
  | _ => none }
def runsApartRow : OpenClaim := { program := "ytcojhjnledeciaa", sum := "f23c0b108c4523e5fbcb799659ab367c4efda50fdd1c9ad0fb05f00f77802ae8", func := "portage/portagelaw02.RunsApart", spec := "runsApart", inPlace := ["slices.overlaps[portage/api.Span[int64]]"], unfollowed := true, recurses := true, apart := false }
def RunsApartSaid : Prop := runsApartRow.holds Try.pinned (OpenSpec.ofChange runsApartSpec)

/-- ITS FALSE NEIGHBOUR: 'it returns false'. Refute it at one input. -/
def runsApartWrong : ChangeSpec := { name := "runsApart", fn := fun _ => fun
  | [d1, d2, d3] => { results := [.lit (.bool false)], args := [d1, d2, d3] }
  | _ => none }
def RunsApartWrongFalsely : Prop := runsApartRow.holds Try.pinned (OpenSpec.ofChange runsApartWrong)

/-- 'portagelaw02.RunsAlgebra': WHATEVER THE INPUT: true; the input reads as it did. -/
def runsAlgebraSpec : ChangeSpec := { name := "runsAlgebra", fn := fun _ => fun
  | [d1, d2, d3] => { results := [.lit (.bool true)], args := [d1, d2, d3] }
  | _ => none }
def runsAlgebraRow : OpenClaim := { program := "ytcojhjnledeciaa", sum := "f23c0b108c4523e5fbcb799659ab367c4efda50fdd1c9ad0fb05f00f77802ae8", func := "portage/portagelaw02.RunsAlgebra", spec := "runsAlgebra", inPlace := ["slices.overlaps[portage/api.Span[int64]]"], unfollowed := true, recurses := true, apart := false }
def RunsAlgebraSaid : Prop := runsAlgebraRow.holds Try.pinned (OpenSpec.ofChange runsAlgebraSpec)

/-- ITS FALSE NEIGHBOUR: 'it returns false'. Refute it at one input. -/
def runsAlgebraWrong : ChangeSpec := { name := "runsAlgebra", fn := fun _ => fun
  | [d1, d2, d3] => { results := [.lit (.bool false)], args := [d1, d2, d3] }
  | _ => none }
def RunsAlgebraWrongFalsely : Prop := runsAlgebraRow.holds Try.pinned (OpenSpec.ofChange runsAlgebraWrong)

/-- 'portagelaw02.RunsBound': WHATEVER THE INPUT: true; the input reads as it did. -/
def runsBoundSpec : ChangeSpec := { name := "runsBound", fn := fun _ => fun
  | [d1, d2] => { results := [.lit (.bool true)], args := [d1, d2] }
  | _ => none }
def runsBoundRow : OpenClaim := { program := "ytcojhjnledeciaa", sum := "f23c0b108c4523e5fbcb799659ab367c4efda50fdd1c9ad0fb05f00f77802ae8", func := "portage/portagelaw02.RunsBound", spec := "runsBound", inPlace := ["slices.overlaps[portage/api.Span[int64]]"], unfollowed := true, recurses := true, apart := false }
def RunsBoundSaid : Prop := runsBoundRow.holds Try.pinned (OpenSpec.ofChange runsBoundSpec)

/-- ITS FALSE NEIGHBOUR: 'it returns false'. Refute it at one input. -/
def runsBoundWrong : ChangeSpec := { name := "runsBound", fn := fun _ => fun
  | [d1, d2] => { results := [.lit (.bool false)], args := [d1, d2] }
  | _ => none }
def RunsBoundWrongFalsely : Prop := runsBoundRow.holds Try.pinned (OpenSpec.ofChange runsBoundWrong)

/-- 'portagelaw02.RunsOrder': WHATEVER THE INPUT: true; the input reads as it did. -/
def runsOrderSpec : ChangeSpec := { name := "runsOrder", fn := fun _ => fun
  | [d1, d2] => { results := [.lit (.bool true)], args := [d1, d2] }
  | _ => none }
def runsOrderRow : OpenClaim := { program := "ytcojhjnledeciaa", sum := "f23c0b108c4523e5fbcb799659ab367c4efda50fdd1c9ad0fb05f00f77802ae8", func := "portage/portagelaw02.RunsOrder", spec := "runsOrder", inPlace := ["slices.overlaps[portage/api.Span[int64]]"], unfollowed := true, recurses := true, apart := false }
def RunsOrderSaid : Prop := runsOrderRow.holds Try.pinned (OpenSpec.ofChange runsOrderSpec)

/-- ITS FALSE NEIGHBOUR: 'it returns false'. Refute it at one input. -/
def runsOrderWrong : ChangeSpec := { name := "runsOrder", fn := fun _ => fun
  | [d1, d2] => { results := [.lit (.bool false)], args := [d1, d2] }
  | _ => none }
def RunsOrderWrongFalsely : Prop := runsOrderRow.holds Try.pinned (OpenSpec.ofChange runsOrderWrong)

/- THE SECOND FORM. 'bulk': how many values and letters a reading holds, each counted each time it is reached (what is shared counts as often as it is met; a slice's spare places count too). A statement '..UptoSaid' is the law's where the arguments, and the package variables that the reading takes, are together of bulk at most 1048576: NARROWER than '..Said'. Prove '..Said' where nothing that the law and all that it calls make is longer than what came in: it says more and counts as full. Else prove '..UptoSaid'. A law counts once. -/
mutual
def uptoBulk {H : Type} : DataW H → Nat
  | .lit (.string bytes) => bytes.length + 1
  | .lit _ => 1
  | .nil => 1
  | .ptr d => uptoBulk d + 1
  | .slice elems spare => uptoBulkAll elems + uptoBulkAll spare + 1
  | .agg parts => uptoBulkAll parts + 1
  | .iface _ d => uptoBulk d + 1
  | .map entries => uptoBulkEntries entries + 1
  | .held _ => 1
def uptoBulkAll {H : Type} : List (DataW H) → Nat
  | [] => 0
  | d :: r => uptoBulk d + uptoBulkAll r
def uptoBulkEntries {H : Type} : List (Lit × DataW H) → Nat
  | [] => 0
  | x :: r => uptoBulkEntry x + uptoBulkEntries r
def uptoBulkEntry {H : Type} : Lit × DataW H → Nat
  | (.string bytes, d) => bytes.length + uptoBulk d + 1
  | (_, d) => uptoBulk d + 1
 end
def uptoSmall : (H : Type) → List (DataW H) → Bool := fun _ ds => decide (uptoBulkAll ds ≤ 1048576)
def OpenSpec.upto (s : _root_.Go.ChangeSpec) : _root_.Go.OpenSpec := { _root_.Go.OpenSpec.ofChange s with cond := some uptoSmall }

/-- 'portagelaw02.RunsPlays', WHERE WHAT IT READS IS OF BULK AT MOST 1048576: true; the input reads as it did. -/
def runsPlaysUptoRow : OpenClaim := { program := "ytcojhjnledeciaa", sum := "f23c0b108c4523e5fbcb799659ab367c4efda50fdd1c9ad0fb05f00f77802ae8", func := "portage/portagelaw02.RunsPlays", spec := "runsPlays", inPlace := ["slices.overlaps[portage/api.Span[int64]]"], unfollowed := true, recurses := true, apart := false, narrowed := true }
def RunsPlaysUptoSaid : Prop := runsPlaysUptoRow.holds Try.pinned (OpenSpec.upto runsPlaysSpec)

/-- 'portagelaw02.RunsWide', WHERE WHAT IT READS IS OF BULK AT MOST 1048576: true; the input reads as it did. -/
def runsWideUptoRow : OpenClaim := { program := "ytcojhjnledeciaa", sum := "f23c0b108c4523e5fbcb799659ab367c4efda50fdd1c9ad0fb05f00f77802ae8", func := "portage/portagelaw02.RunsWide", spec := "runsWide", inPlace := ["slices.overlaps[portage/api.Span[int64]]", "slices.overlaps[portage/api.Span[uint64]]"], unfollowed := true, recurses := true, apart := false, narrowed := true }
def RunsWideUptoSaid : Prop := runsWideUptoRow.holds Try.pinned (OpenSpec.upto runsWideSpec)

/-- 'portagelaw02.RunsApart', WHERE WHAT IT READS IS OF BULK AT MOST 1048576: true; the input reads as it did. -/
def runsApartUptoRow : OpenClaim := { program := "ytcojhjnledeciaa", sum := "f23c0b108c4523e5fbcb799659ab367c4efda50fdd1c9ad0fb05f00f77802ae8", func := "portage/portagelaw02.RunsApart", spec := "runsApart", inPlace := ["slices.overlaps[portage/api.Span[int64]]"], unfollowed := true, recurses := true, apart := false, narrowed := true }
def RunsApartUptoSaid : Prop := runsApartUptoRow.holds Try.pinned (OpenSpec.upto runsApartSpec)

/-- 'portagelaw02.RunsAlgebra', WHERE WHAT IT READS IS OF BULK AT MOST 1048576: true; the input reads as it did. -/
def runsAlgebraUptoRow : OpenClaim := { program := "ytcojhjnledeciaa", sum := "f23c0b108c4523e5fbcb799659ab367c4efda50fdd1c9ad0fb05f00f77802ae8", func := "portage/portagelaw02.RunsAlgebra", spec := "runsAlgebra", inPlace := ["slices.overlaps[portage/api.Span[int64]]"], unfollowed := true, recurses := true, apart := false, narrowed := true }
def RunsAlgebraUptoSaid : Prop := runsAlgebraUptoRow.holds Try.pinned (OpenSpec.upto runsAlgebraSpec)

/-- 'portagelaw02.RunsBound', WHERE WHAT IT READS IS OF BULK AT MOST 1048576: true; the input reads as it did. -/
def runsBoundUptoRow : OpenClaim := { program := "ytcojhjnledeciaa", sum := "f23c0b108c4523e5fbcb799659ab367c4efda50fdd1c9ad0fb05f00f77802ae8", func := "portage/portagelaw02.RunsBound", spec := "runsBound", inPlace := ["slices.overlaps[portage/api.Span[int64]]"], unfollowed := true, recurses := true, apart := false, narrowed := true }
def RunsBoundUptoSaid : Prop := runsBoundUptoRow.holds Try.pinned (OpenSpec.upto runsBoundSpec)

/-- 'portagelaw02.RunsOrder', WHERE WHAT IT READS IS OF BULK AT MOST 1048576: true; the input reads as it did. -/
def runsOrderUptoRow : OpenClaim := { program := "ytcojhjnledeciaa", sum := "f23c0b108c4523e5fbcb799659ab367c4efda50fdd1c9ad0fb05f00f77802ae8", func := "portage/portagelaw02.RunsOrder", spec := "runsOrder", inPlace := ["slices.overlaps[portage/api.Span[int64]]"], unfollowed := true, recurses := true, apart := false, narrowed := true }
def RunsOrderUptoSaid : Prop := runsOrderUptoRow.holds Try.pinned (OpenSpec.upto runsOrderSpec)

end Rows
end Go.Proofs.Ytcojhjnledeciaa
