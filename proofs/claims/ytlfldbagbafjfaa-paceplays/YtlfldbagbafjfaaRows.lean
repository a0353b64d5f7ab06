/-
  No cell of these rows narrows 'for every input' (looked for: loops, veiled, ifaces, maps, wideKeys, modest, calm, conditions, laid).
  DERIVED. THE GIVEN ROWS OF THIS SEAT. 4 by the template 'for every input the law returns true; each argument reads behind the call as it read before'; 0 by the template 'total and deterministic' (their statements: YtlfldbagbafjfaaTotals.lean).
  GIVEN WITH THE SEED: the statements are not yours to turn. If you find one false, say at which input.
  Laid BY PROGRAM, IN A SANDBOX (cutbox-rows.mjs): the forced cells as the released guide's own fill.sh prints them over the translation d5b7438795e1e078… (all of the seat's roots in one cut). By AI agents, Wed Nov 11 2026. No macro, syntax, notation, axiom, sorry.
-/
import Derived.Test.YtlfldbagbafjfaaChecked
import GoSem.Claim
import GoSem.ClaimJoined
import GoSem.ClaimMapViews
import Derived.JoinedTies
import Derived.KernelRfl
namespace Go.Proofs.Ytlfldbagbafjfaa
/- THE CELL 'sum', in the pinned program and in every row, IS THE sha256 OF THE DUMP (.gsa) THAT YtlfldbagbafjfaaProg.lean LOADS. Nothing in Lean hashes anything: it is a label: what it is worth is what the hold of that sum in a sandbox is worth. -/
noncomputable def Try.pinned : Pinned := { name := "ytlfldbagbafjfaa", sum := "d5b7438795e1e078d5cf790b014c422d648fc6dd2a6c92df434e8fa82be46b0e", checked := Try.checked }
namespace Rows
def none {H : Type} : Left H := { results := [], args := [] }

/-- 'portagelaw12.PacePlays': WHATEVER THE INPUT: true; the input reads as it did. -/
def pacePlaysSpec : ChangeSpec := { name := "pacePlays", fn := fun _ => fun
  | [d1, d2, d3] => { results := [.lit (.bool true)], args := [d1, d2, d3] }
  | _ => none }
def pacePlaysRow : OpenClaim := { program := "ytlfldbagbafjfaa", sum := "d5b7438795e1e078d5cf790b014c422d648fc6dd2a6c92df434e8fa82be46b0e", func := "portage/portagelaw12.PacePlays", spec := "pacePlays", inPlace := ["math/bits.Add64"], named := ["math/bits.divideError", "math/bits.overflowError"], apart := false }
def PacePlaysSaid : Prop := pacePlaysRow.holds Try.pinned (OpenSpec.ofChange pacePlaysSpec)

/-- ITS FALSE NEIGHBOUR: 'it returns false'. Refute it at one input. -/
def pacePlaysWrong : ChangeSpec := { name := "pacePlays", fn := fun _ => fun
  | [d1, d2, d3] => { results := [.lit (.bool false)], args := [d1, d2, d3] }
  | _ => none }
def PacePlaysWrongFalsely : Prop := pacePlaysRow.holds Try.pinned (OpenSpec.ofChange pacePlaysWrong)

/-- 'portagelaw12.PaceWhen': WHATEVER THE INPUT: true; the input reads as it did. -/
def paceWhenSpec : ChangeSpec := { name := "paceWhen", fn := fun _ => fun
  | [d1, d2, d3] => { results := [.lit (.bool true)], args := [d1, d2, d3] }
  | _ => none }
def paceWhenRow : OpenClaim := { program := "ytlfldbagbafjfaa", sum := "d5b7438795e1e078d5cf790b014c422d648fc6dd2a6c92df434e8fa82be46b0e", func := "portage/portagelaw12.PaceWhen", spec := "paceWhen", inPlace := ["math/bits.Add64"], named := ["math/bits.divideError", "math/bits.overflowError"], apart := false }
def PaceWhenSaid : Prop := paceWhenRow.holds Try.pinned (OpenSpec.ofChange paceWhenSpec)

/-- ITS FALSE NEIGHBOUR: 'it returns false'. Refute it at one input. -/
def paceWhenWrong : ChangeSpec := { name := "paceWhen", fn := fun _ => fun
  | [d1, d2, d3] => { results := [.lit (.bool false)], args := [d1, d2, d3] }
  | _ => none }
def PaceWhenWrongFalsely : Prop := paceWhenRow.holds Try.pinned (OpenSpec.ofChange paceWhenWrong)

/-- 'portagelaw12.PacePieces': WHATEVER THE INPUT: true; the input reads as it did. -/
def pacePiecesSpec : ChangeSpec := { name := "pacePieces", fn := fun _ => fun
  | [d1, d2, d3] => { results := [.lit (.bool true)], args := [d1, d2, d3] }
  | _ => none }
def pacePiecesRow : OpenClaim := { program := "ytlfldbagbafjfaa", sum := "d5b7438795e1e078d5cf790b014c422d648fc6dd2a6c92df434e8fa82be46b0e", func := "portage/portagelaw12.PacePieces", spec := "pacePieces", inPlace := ["math/bits.Add64"], named := ["math/bits.divideError", "math/bits.overflowError"], apart := false }
def PacePiecesSaid : Prop := pacePiecesRow.holds Try.pinned (OpenSpec.ofChange pacePiecesSpec)

/-- ITS FALSE NEIGHBOUR: 'it returns false'. Refute it at one input. -/
def pacePiecesWrong : ChangeSpec := { name := "pacePieces", fn := fun _ => fun
  | [d1, d2, d3] => { results := [.lit (.bool false)], args := [d1, d2, d3] }
  | _ => none }
def PacePiecesWrongFalsely : Prop := pacePiecesRow.holds Try.pinned (OpenSpec.ofChange pacePiecesWrong)

/-- 'portagelaw12.PaceBound': WHATEVER THE INPUT: true; the input reads as it did. -/
def paceBoundSpec : ChangeSpec := { name := "paceBound", fn := fun _ => fun
  | [d1, d2] => { results := [.lit (.bool true)], args := [d1, d2] }
  | _ => none }
def paceBoundRow : OpenClaim := { program := "ytlfldbagbafjfaa", sum := "d5b7438795e1e078d5cf790b014c422d648fc6dd2a6c92df434e8fa82be46b0e", func := "portage/portagelaw12.PaceBound", spec := "paceBound", inPlace := ["math/bits.Add64"], named := ["math/bits.divideError", "math/bits.overflowError"], apart := false }
def PaceBoundSaid : Prop := paceBoundRow.holds Try.pinned (OpenSpec.ofChange paceBoundSpec)

/-- ITS FALSE NEIGHBOUR: 'it returns false'. Refute it at one input. -/
def paceBoundWrong : ChangeSpec := { name := "paceBound", fn := fun _ => fun
  | [d1, d2] => { results := [.lit (.bool false)], args := [d1, d2] }
  | _ => none }
def PaceBoundWrongFalsely : Prop := paceBoundRow.holds Try.pinned (OpenSpec.ofChange paceBoundWrong)

/- THE SECOND FORM. 'bulk': how many values and letters a reading holds, each counted each time it is reached (what is shared counts as often as it is met; a slice's spare places count too). A statement '..UptoSaid' is the law's where the arguments, and the package variables that the reading takes, are together of bulk at most 1048576: NARROWER than '..Said'. Prove '..Said' where nothing that the law and all that it calls make is longer than what came in: it says more and counts as full. Else prove '..UptoSaid'. A law counts once. -/
mutual
def uptoBulk {H : Type} : DataW H → Nat
  | .lit (.string bytes) => bytes.length + 1
  | .lit _ => 1
  | .nil => 1
  | .ptr d => uptoBulk d + 1
  | .slice elems spare => uptoBulkAll elems + uptoBulkAll spare + 1
  | .agg parts => uptoBulkAll parts + 1
  | .iface _ d => uptoBulk d + 1
  | .map entries => uptoBulkEntries entries + 1
  | .held _ => 1
def uptoBulkAll {H : Type} : List (DataW H) → Nat
  | [] => 0
  | d :: r => uptoBulk d + uptoBulkAll r
def uptoBulkEntries {H : Type} : List (Lit × DataW H) → Nat
  | [] => 0
  | x :: r => uptoBulkEntry x + uptoBulkEntries r
def uptoBulkEntry {H : Type} : Lit × DataW H → Nat
  | (.string bytes, d) => bytes.length + uptoBulk d + 1
  | (_, d) => uptoBulk d + 1
 end
def uptoSmall : (H : Type) → List (DataW H) → Bool := fun _ ds => decide (uptoBulkAll ds ≤ 1048576)
def OpenSpec.upto (s : _root_.Go.ChangeSpec) : _root_.Go.OpenSpec := { _root_.Go.OpenSpec.ofChange s with cond := some uptoSmall }

/-- 'portagelaw12.PacePlays', WHERE WHAT IT READS IS OF BULK AT MOST 1048576: true; the input reads as it did. -/
def pacePlaysUptoRow : OpenClaim := { program := "ytlfldbagbafjfaa", sum := "d5b7438795e1e078d5cf790b014c422d648fc6dd2a6c92df434e8fa82be46b0e", func := "portage/portagelaw12.PacePlays", spec := "pacePlays", inPlace := ["math/bits.Add64"], named := ["math/bits.divideError", "math/bits.overflowError"], apart := false, narrowed := true }
def PacePlaysUptoSaid : Prop := pacePlaysUptoRow.holds Try.pinned (OpenSpec.upto pacePlaysSpec)

/-- 'portagelaw12.PaceWhen', WHERE WHAT IT READS IS OF BULK AT MOST 1048576: true; the input reads as it did. -/
def paceWhenUptoRow : OpenClaim := { program := "ytlfldbagbafjfaa", sum := "d5b7438795e1e078d5cf790b014c422d648fc6dd2a6c92df434e8fa82be46b0e", func := "portage/portagelaw12.PaceWhen", spec := "paceWhen", inPlace := ["math/bits.Add64"], named := ["math/bits.divideError", "math/bits.overflowError"], apart := false, narrowed := true }
def PaceWhenUptoSaid : Prop := paceWhenUptoRow.holds Try.pinned (OpenSpec.upto paceWhenSpec)

/-- 'portagelaw12.PacePieces', WHERE WHAT IT READS IS OF BULK AT MOST 1048576: true; the input reads as it did. -/
def pacePiecesUptoRow : OpenClaim := { program := "ytlfldbagbafjfaa", sum := "d5b7438795e1e078d5cf790b014c422d648fc6dd2a6c92df434e8fa82be46b0e", func := "portage/portagelaw12.PacePieces", spec := "pacePieces", inPlace := ["math/bits.Add64"], named := ["math/bits.divideError", "math/bits.overflowError"], apart := false, narrowed := true }
def PacePiecesUptoSaid : Prop := pacePiecesUptoRow.holds Try.pinned (OpenSpec.upto pacePiecesSpec)

/-- 'portagelaw12.PaceBound', WHERE WHAT IT READS IS OF BULK AT MOST 1048576: true; the input reads as it did. -/
def paceBoundUptoRow : OpenClaim := { program := "ytlfldbagbafjfaa", sum := "d5b7438795e1e078d5cf790b014c422d648fc6dd2a6c92df434e8fa82be46b0e", func := "portage/portagelaw12.PaceBound", spec := "paceBound", inPlace := ["math/bits.Add64"], named := ["math/bits.divideError", "math/bits.overflowError"], apart := false, narrowed := true }
def PaceBoundUptoSaid : Prop := paceBoundUptoRow.holds Try.pinned (OpenSpec.upto paceBoundSpec)

end Rows
end Go.Proofs.Ytlfldbagbafjfaa
