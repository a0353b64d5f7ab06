/-
  No cell of these rows narrows 'for every input' (looked for: loops, veiled, ifaces, maps, wideKeys, modest, calm, conditions, laid).
  DERIVED. THE GIVEN ROWS OF THIS SEAT. 3 by the template 'for every input the law returns true; each argument reads behind the call as it read before'; 0 by the template 'total and deterministic' (their statements: YtebpcgljmcdllabTotals.lean).
  GIVEN WITH THE SEED: the statements are not yours to turn. If you find one false, say at which input.
  Laid BY PROGRAM, IN A SANDBOX (cutbox-rows.mjs): the forced cells as the released guide's own fill.sh prints them over the translation bb7b9d69d7c07c43… (all of the seat's roots in one cut). By AI agents, Wed Nov 11 2026. No macro, syntax, notation, axiom, sorry.
-/
import Derived.Test.YtebpcgljmcdllabChecked
import GoSem.Claim
import GoSem.ClaimJoined
import GoSem.ClaimMapViews
import Derived.JoinedTies
import Derived.KernelRfl
namespace Go.Proofs.Ytebpcgljmcdllab
/- THE CELL 'sum', in the pinned program and in every row, IS THE sha256 OF THE DUMP (.gsa) THAT YtebpcgljmcdllabProg.lean LOADS. Nothing in Lean hashes anything: it is a label: what it is worth is what the hold of that sum in a sandbox is worth. -/
noncomputable def Try.pinned : Pinned := { name := "ytebpcgljmcdllab", sum := "bb7b9d69d7c07c43ebc6bd759248a01af36b3f4ea7017d0fe993cfce715ea617", checked := Try.checked }
namespace Rows
def none {H : Type} : Left H := { results := [], args := [] }

/-- 'portagelaw02.RunsCounts': WHATEVER THE INPUT: true; the input reads as it did. -/
def runsCountsSpec : ChangeSpec := { name := "runsCounts", fn := fun _ => fun
  | [d] => { results := [.lit (.bool true)], args := [d] }
  | _ => none }
def runsCountsRow : OpenClaim := { program := "ytebpcgljmcdllab", sum := "bb7b9d69d7c07c43ebc6bd759248a01af36b3f4ea7017d0fe993cfce715ea617", func := "portage/portagelaw02.RunsCounts", spec := "runsCounts", inPlace := ["slices.overlaps[portage/api.Span[int64]]"], unfollowed := true, recurses := true, apart := false }
def RunsCountsSaid : Prop := runsCountsRow.holds Try.pinned (OpenSpec.ofChange runsCountsSpec)

/-- ITS FALSE NEIGHBOUR: 'it returns false'. Refute it at one input. -/
def runsCountsWrong : ChangeSpec := { name := "runsCounts", fn := fun _ => fun
  | [d] => { results := [.lit (.bool false)], args := [d] }
  | _ => none }
def RunsCountsWrongFalsely : Prop := runsCountsRow.holds Try.pinned (OpenSpec.ofChange runsCountsWrong)

/-- 'portagelaw02.RunsLoops': WHATEVER THE INPUT: true; the input reads as it did. -/
def runsLoopsSpec : ChangeSpec := { name := "runsLoops", fn := fun _ => fun
  | [d1, d2, d3] => { results := [.lit (.bool true)], args := [d1, d2, d3] }
  | _ => none }
def runsLoopsRow : OpenClaim := { program := "ytebpcgljmcdllab", sum := "bb7b9d69d7c07c43ebc6bd759248a01af36b3f4ea7017d0fe993cfce715ea617", func := "portage/portagelaw02.RunsLoops", spec := "runsLoops", inPlace := ["slices.overlaps[portage/api.Span[int64]]"], unfollowed := true, recurses := true, apart := false }
def RunsLoopsSaid : Prop := runsLoopsRow.holds Try.pinned (OpenSpec.ofChange runsLoopsSpec)

/-- ITS FALSE NEIGHBOUR: 'it returns false'. Refute it at one input. -/
def runsLoopsWrong : ChangeSpec := { name := "runsLoops", fn := fun _ => fun
  | [d1, d2, d3] => { results := [.lit (.bool false)], args := [d1, d2, d3] }
  | _ => none }
def RunsLoopsWrongFalsely : Prop := runsLoopsRow.holds Try.pinned (OpenSpec.ofChange runsLoopsWrong)

/-- 'portagelaw02.RunsKinds': WHATEVER THE INPUT: true; the input reads as it did. -/
def runsKindsSpec : ChangeSpec := { name := "runsKinds", fn := fun _ => fun
  | [d] => { results := [.lit (.bool true)], args := [d] }
  | _ => none }
def runsKindsRow : OpenClaim := { program := "ytebpcgljmcdllab", sum := "bb7b9d69d7c07c43ebc6bd759248a01af36b3f4ea7017d0fe993cfce715ea617", func := "portage/portagelaw02.RunsKinds", spec := "runsKinds", inPlace := ["slices.overlaps[portage/api.Span[int64]]", "slices.overlaps[portage/api.Span[int]]"], unfollowed := true, recurses := true, apart := false }
def RunsKindsSaid : Prop := runsKindsRow.holds Try.pinned (OpenSpec.ofChange runsKindsSpec)

/-- ITS FALSE NEIGHBOUR: 'it returns false'. Refute it at one input. -/
def runsKindsWrong : ChangeSpec := { name := "runsKinds", fn := fun _ => fun
  | [d] => { results := [.lit (.bool false)], args := [d] }
  | _ => none }
def RunsKindsWrongFalsely : Prop := runsKindsRow.holds Try.pinned (OpenSpec.ofChange runsKindsWrong)

/- THE SECOND FORM. 'bulk': how many values and letters a reading holds, each counted each time it is reached (what is shared counts as often as it is met; a slice's spare places count too). A statement '..UptoSaid' is the law's where the arguments, and the package variables that the reading takes, are together of bulk at most 1048576: NARROWER than '..Said'. Prove '..Said' where nothing that the law and all that it calls make is longer than what came in: it says more and counts as full. Else prove '..UptoSaid'. A law counts once. -/
mutual
def uptoBulk {H : Type} : DataW H → Nat
  | .lit (.string bytes) => bytes.length + 1
  | .lit _ => 1
  | .nil => 1
  | .ptr d => uptoBulk d + 1
  | .slice elems spare => uptoBulkAll elems + uptoBulkAll spare + 1
  | .agg parts => uptoBulkAll parts + 1
  | .iface _ d => uptoBulk d + 1
  | .map entries => uptoBulkEntries entries + 1
  | .held _ => 1
def uptoBulkAll {H : Type} : List (DataW H) → Nat
  | [] => 0
  | d :: r => uptoBulk d + uptoBulkAll r
def uptoBulkEntries {H : Type} : List (Lit × DataW H) → Nat
  | [] => 0
  | x :: r => uptoBulkEntry x + uptoBulkEntries r
def uptoBulkEntry {H : Type} : Lit × DataW H → Nat
  | (.string bytes, d) => bytes.length + uptoBulk d + 1
  | (_, d) => uptoBulk d + 1
 end
def uptoSmall : (H : Type) → List (DataW H) → Bool := fun _ ds => decide (uptoBulkAll ds ≤ 1048576)
def OpenSpec.upto (s : _root_.Go.ChangeSpec) : _root_.Go.OpenSpec := { _root_.Go.OpenSpec.ofChange s with cond := some uptoSmall }

/-- 'portagelaw02.RunsCounts', WHERE WHAT IT READS IS OF BULK AT MOST 1048576: true; the input reads as it did. -/
def runsCountsUptoRow : OpenClaim := { program := "ytebpcgljmcdllab", sum := "bb7b9d69d7c07c43ebc6bd759248a01af36b3f4ea7017d0fe993cfce715ea617", func := "portage/portagelaw02.RunsCounts", spec := "runsCounts", inPlace := ["slices.overlaps[portage/api.Span[int64]]"], unfollowed := true, recurses := true, apart := false, narrowed := true }
def RunsCountsUptoSaid : Prop := runsCountsUptoRow.holds Try.pinned (OpenSpec.upto runsCountsSpec)

/-- 'portagelaw02.RunsLoops', WHERE WHAT IT READS IS OF BULK AT MOST 1048576: true; the input reads as it did. -/
def runsLoopsUptoRow : OpenClaim := { program := "ytebpcgljmcdllab", sum := "bb7b9d69d7c07c43ebc6bd759248a01af36b3f4ea7017d0fe993cfce715ea617", func := "portage/portagelaw02.RunsLoops", spec := "runsLoops", inPlace := ["slices.overlaps[portage/api.Span[int64]]"], unfollowed := true, recurses := true, apart := false, narrowed := true }
def RunsLoopsUptoSaid : Prop := runsLoopsUptoRow.holds Try.pinned (OpenSpec.upto runsLoopsSpec)

/-- 'portagelaw02.RunsKinds', WHERE WHAT IT READS IS OF BULK AT MOST 1048576: true; the input reads as it did. -/
def runsKindsUptoRow : OpenClaim := { program := "ytebpcgljmcdllab", sum := "bb7b9d69d7c07c43ebc6bd759248a01af36b3f4ea7017d0fe993cfce715ea617", func := "portage/portagelaw02.RunsKinds", spec := "runsKinds", inPlace := ["slices.overlaps[portage/api.Span[int64]]", "slices.overlaps[portage/api.Span[int]]"], unfollowed := true, recurses := true, apart := false, narrowed := true }
def RunsKindsUptoSaid : Prop := runsKindsUptoRow.holds Try.pinned (OpenSpec.upto runsKindsSpec)

end Rows
end Go.Proofs.Ytebpcgljmcdllab
