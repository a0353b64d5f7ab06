/-
  No cell of these rows narrows 'for every input' (looked for: loops, veiled, ifaces, maps, wideKeys, modest, calm, conditions, laid).
  DERIVED. THE GIVEN ROWS OF THIS SEAT. 3 by the template 'for every input the law returns true; each argument reads behind the call as it read before'; 0 by the template 'total and deterministic' (their statements: YtielpjdjlmkejaaTotals.lean).
  GIVEN WITH THE SEED: the statements are not yours to turn. If you find one false, say at which input.
  Laid BY PROGRAM, IN A SANDBOX (cutbox-rows.mjs): the forced cells as the released guide's own fill.sh prints them over the translation 46b67999b75ddfe2… (all of the seat's roots in one cut). By AI agents, Wed Nov 11 2026. No macro, syntax, notation, axiom, sorry.
-/
import Derived.Test.YtielpjdjlmkejaaChecked
import GoSem.Claim
import GoSem.ClaimJoined
import GoSem.ClaimMapViews
import Derived.JoinedTies
import Derived.KernelRfl
namespace Go.Proofs.Ytielpjdjlmkejaa
/- THE CELL 'sum', in the pinned program and in every row, IS THE sha256 OF THE DUMP (.gsa) THAT YtielpjdjlmkejaaProg.lean LOADS. Nothing in Lean hashes anything: it is a label: what it is worth is what the hold of that sum in a sandbox is worth. -/
noncomputable def Try.pinned : Pinned := { name := "ytielpjdjlmkejaa", sum := "46b67999b75ddfe2f2c102545027de1142df0bff27d1ebf7199f17706a937f05", checked := Try.checked }
namespace Rows
def none {H : Type} : Left H := { results := [], args := [] }

/-- 'portagelaw08.SeenPlays': WHATEVER THE INPUT: true; the input reads as it did. -/
def seenPlaysSpec : ChangeSpec := { name := "seenPlays", fn := fun _ => fun
  | [d1, d2, d3, d4] => { results := [.lit (.bool true)], args := [d1, d2, d3, d4] }
  | _ => none }
def seenPlaysRow : OpenClaim := { program := "ytielpjdjlmkejaa", sum := "46b67999b75ddfe2f2c102545027de1142df0bff27d1ebf7199f17706a937f05", func := "portage/portagelaw08.SeenPlays", spec := "seenPlays", inPlace := ["slices.overlaps[portage/api.Span[int64]]"], unfollowed := true, recurses := true, apart := false }
def SeenPlaysSaid : Prop := seenPlaysRow.holds Try.pinned (OpenSpec.ofChange seenPlaysSpec)

/-- ITS FALSE NEIGHBOUR: 'it returns false'. Refute it at one input. -/
def seenPlaysWrong : ChangeSpec := { name := "seenPlays", fn := fun _ => fun
  | [d1, d2, d3, d4] => { results := [.lit (.bool false)], args := [d1, d2, d3, d4] }
  | _ => none }
def SeenPlaysWrongFalsely : Prop := seenPlaysRow.holds Try.pinned (OpenSpec.ofChange seenPlaysWrong)

/-- 'portagelaw08.SeenOnce': WHATEVER THE INPUT: true; the input reads as it did. -/
def seenOnceSpec : ChangeSpec := { name := "seenOnce", fn := fun _ => fun
  | [d1, d2, d3] => { results := [.lit (.bool true)], args := [d1, d2, d3] }
  | _ => none }
def seenOnceRow : OpenClaim := { program := "ytielpjdjlmkejaa", sum := "46b67999b75ddfe2f2c102545027de1142df0bff27d1ebf7199f17706a937f05", func := "portage/portagelaw08.SeenOnce", spec := "seenOnce", inPlace := ["slices.overlaps[portage/api.Span[int64]]"], unfollowed := true, recurses := true, apart := false }
def SeenOnceSaid : Prop := seenOnceRow.holds Try.pinned (OpenSpec.ofChange seenOnceSpec)

/-- ITS FALSE NEIGHBOUR: 'it returns false'. Refute it at one input. -/
def seenOnceWrong : ChangeSpec := { name := "seenOnce", fn := fun _ => fun
  | [d1, d2, d3] => { results := [.lit (.bool false)], args := [d1, d2, d3] }
  | _ => none }
def SeenOnceWrongFalsely : Prop := seenOnceRow.holds Try.pinned (OpenSpec.ofChange seenOnceWrong)

/-- 'portagelaw08.SeenSoon': WHATEVER THE INPUT: true; the input reads as it did. -/
def seenSoonSpec : ChangeSpec := { name := "seenSoon", fn := fun _ => fun
  | [d1, d2, d3] => { results := [.lit (.bool true)], args := [d1, d2, d3] }
  | _ => none }
def seenSoonRow : OpenClaim := { program := "ytielpjdjlmkejaa", sum := "46b67999b75ddfe2f2c102545027de1142df0bff27d1ebf7199f17706a937f05", func := "portage/portagelaw08.SeenSoon", spec := "seenSoon", inPlace := ["slices.overlaps[portage/api.Span[int64]]"], unfollowed := true, recurses := true, apart := false }
def SeenSoonSaid : Prop := seenSoonRow.holds Try.pinned (OpenSpec.ofChange seenSoonSpec)

/-- ITS FALSE NEIGHBOUR: 'it returns false'. Refute it at one input. -/
def seenSoonWrong : ChangeSpec := { name := "seenSoon", fn := fun _ => fun
  | [d1, d2, d3] => { results := [.lit (.bool false)], args := [d1, d2, d3] }
  | _ => none }
def SeenSoonWrongFalsely : Prop := seenSoonRow.holds Try.pinned (OpenSpec.ofChange seenSoonWrong)

/- THE SECOND FORM. 'bulk': how many values and letters a reading holds, each counted each time it is reached (what is shared counts as often as it is met; a slice's spare places count too). A statement '..UptoSaid' is the law's where the arguments, and the package variables that the reading takes, are together of bulk at most 1048576: NARROWER than '..Said'. Prove '..Said' where nothing that the law and all that it calls make is longer than what came in: it says more and counts as full. Else prove '..UptoSaid'. A law counts once. -/
mutual
def uptoBulk {H : Type} : DataW H → Nat
  | .lit (.string bytes) => bytes.length + 1
  | .lit _ => 1
  | .nil => 1
  | .ptr d => uptoBulk d + 1
  | .slice elems spare => uptoBulkAll elems + uptoBulkAll spare + 1
  | .agg parts => uptoBulkAll parts + 1
  | .iface _ d => uptoBulk d + 1
  | .map entries => uptoBulkEntries entries + 1
  | .held _ => 1
def uptoBulkAll {H : Type} : List (DataW H) → Nat
  | [] => 0
  | d :: r => uptoBulk d + uptoBulkAll r
def uptoBulkEntries {H : Type} : List (Lit × DataW H) → Nat
  | [] => 0
  | x :: r => uptoBulkEntry x + uptoBulkEntries r
def uptoBulkEntry {H : Type} : Lit × DataW H → Nat
  | (.string bytes, d) => bytes.length + uptoBulk d + 1
  | (_, d) => uptoBulk d + 1
 end
def uptoSmall : (H : Type) → List (DataW H) → Bool := fun _ ds => decide (uptoBulkAll ds ≤ 1048576)
def OpenSpec.upto (s : _root_.Go.ChangeSpec) : _root_.Go.OpenSpec := { _root_.Go.OpenSpec.ofChange s with cond := some uptoSmall }

/-- 'portagelaw08.SeenPlays', WHERE WHAT IT READS IS OF BULK AT MOST 1048576: true; the input reads as it did. -/
def seenPlaysUptoRow : OpenClaim := { program := "ytielpjdjlmkejaa", sum := "46b67999b75ddfe2f2c102545027de1142df0bff27d1ebf7199f17706a937f05", func := "portage/portagelaw08.SeenPlays", spec := "seenPlays", inPlace := ["slices.overlaps[portage/api.Span[int64]]"], unfollowed := true, recurses := true, apart := false, narrowed := true }
def SeenPlaysUptoSaid : Prop := seenPlaysUptoRow.holds Try.pinned (OpenSpec.upto seenPlaysSpec)

/-- 'portagelaw08.SeenOnce', WHERE WHAT IT READS IS OF BULK AT MOST 1048576: true; the input reads as it did. -/
def seenOnceUptoRow : OpenClaim := { program := "ytielpjdjlmkejaa", sum := "46b67999b75ddfe2f2c102545027de1142df0bff27d1ebf7199f17706a937f05", func := "portage/portagelaw08.SeenOnce", spec := "seenOnce", inPlace := ["slices.overlaps[portage/api.Span[int64]]"], unfollowed := true, recurses := true, apart := false, narrowed := true }
def SeenOnceUptoSaid : Prop := seenOnceUptoRow.holds Try.pinned (OpenSpec.upto seenOnceSpec)

/-- 'portagelaw08.SeenSoon', WHERE WHAT IT READS IS OF BULK AT MOST 1048576: true; the input reads as it did. -/
def seenSoonUptoRow : OpenClaim := { program := "ytielpjdjlmkejaa", sum := "46b67999b75ddfe2f2c102545027de1142df0bff27d1ebf7199f17706a937f05", func := "portage/portagelaw08.SeenSoon", spec := "seenSoon", inPlace := ["slices.overlaps[portage/api.Span[int64]]"], unfollowed := true, recurses := true, apart := false, narrowed := true }
def SeenSoonUptoSaid : Prop := seenSoonUptoRow.holds Try.pinned (OpenSpec.upto seenSoonSpec)

end Rows
end Go.Proofs.Ytielpjdjlmkejaa
