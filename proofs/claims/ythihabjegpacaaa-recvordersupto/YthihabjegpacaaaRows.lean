/-
  No cell of these rows narrows 'for every input' (looked for: loops, veiled, ifaces, maps, wideKeys, modest, calm, conditions, laid).
  DERIVED. THE GIVEN ROWS OF THIS SEAT. 3 by the template 'for every input the law returns true; each argument reads behind the call as it read before'; 0 by the template 'total and deterministic' (their statements: YthihabjegpacaaaTotals.lean).
  GIVEN WITH THE SEED: the statements are not yours to turn. If you find one false, say at which input.
  Laid BY PROGRAM, IN A SANDBOX (cutbox-rows.mjs): the forced cells as the released guide's own fill.sh prints them over the translation 9a2568a39e613256… (all of the seat's roots in one cut). By AI agents, Wed Nov 11 2026. No macro, syntax, notation, axiom, sorry.
-/
import Derived.Test.YthihabjegpacaaaChecked
import GoSem.Claim
import GoSem.ClaimJoined
import GoSem.ClaimMapViews
import Derived.JoinedTies
import Derived.KernelRfl
namespace Go.Proofs.Ythihabjegpacaaa
/- THE CELL 'sum', in the pinned program and in every row, IS THE sha256 OF THE DUMP (.gsa) THAT YthihabjegpacaaaProg.lean LOADS. Nothing in Lean hashes anything: it is a label: what it is worth is what the hold of that sum in a sandbox is worth. -/
noncomputable def Try.pinned : Pinned := { name := "ythihabjegpacaaa", sum := "9a2568a39e613256096205955225d5cf7463da8b13bfd1279bf3826c2939f594", checked := Try.checked }
namespace Rows
def none {H : Type} : Left H := { results := [], args := [] }

/-- 'portagelaw16.RecvOrders': WHATEVER THE INPUT: true; the input reads as it did. -/
def recvOrdersSpec : ChangeSpec := { name := "recvOrders", fn := fun _ => fun
  | [d1, d2] => { results := [.lit (.bool true)], args := [d1, d2] }
  | _ => none }
def recvOrdersRow : OpenClaim := { program := "ythihabjegpacaaa", sum := "9a2568a39e613256096205955225d5cf7463da8b13bfd1279bf3826c2939f594", func := "portage/portagelaw16.RecvOrders", spec := "recvOrders", inPlace := ["slices.overlaps[portage/api.Span[int64]]", "slices.overlaps[portage/recv.piece]"], unfollowed := true, recurses := true, apart := false }
def RecvOrdersSaid : Prop := recvOrdersRow.holds Try.pinned (OpenSpec.ofChange recvOrdersSpec)

/-- ITS FALSE NEIGHBOUR: 'it returns false'. Refute it at one input. -/
def recvOrdersWrong : ChangeSpec := { name := "recvOrders", fn := fun _ => fun
  | [d1, d2] => { results := [.lit (.bool false)], args := [d1, d2] }
  | _ => none }
def RecvOrdersWrongFalsely : Prop := recvOrdersRow.holds Try.pinned (OpenSpec.ofChange recvOrdersWrong)

/-- 'portagelaw16.RecvBounds': WHATEVER THE INPUT: true; the input reads as it did. -/
def recvBoundsSpec : ChangeSpec := { name := "recvBounds", fn := fun _ => fun
  | [d1, d2] => { results := [.lit (.bool true)], args := [d1, d2] }
  | _ => none }
def recvBoundsRow : OpenClaim := { program := "ythihabjegpacaaa", sum := "9a2568a39e613256096205955225d5cf7463da8b13bfd1279bf3826c2939f594", func := "portage/portagelaw16.RecvBounds", spec := "recvBounds", inPlace := ["slices.overlaps[portage/api.Span[int64]]", "slices.overlaps[portage/recv.piece]"], unfollowed := true, recurses := true, apart := false }
def RecvBoundsSaid : Prop := recvBoundsRow.holds Try.pinned (OpenSpec.ofChange recvBoundsSpec)

/-- ITS FALSE NEIGHBOUR: 'it returns false'. Refute it at one input. -/
def recvBoundsWrong : ChangeSpec := { name := "recvBounds", fn := fun _ => fun
  | [d1, d2] => { results := [.lit (.bool false)], args := [d1, d2] }
  | _ => none }
def RecvBoundsWrongFalsely : Prop := recvBoundsRow.holds Try.pinned (OpenSpec.ofChange recvBoundsWrong)

/-- 'portagelaw16.RecvFirst': WHATEVER THE INPUT: true; the input reads as it did. -/
def recvFirstSpec : ChangeSpec := { name := "recvFirst", fn := fun _ => fun
  | [d1, d2, d3] => { results := [.lit (.bool true)], args := [d1, d2, d3] }
  | _ => none }
def recvFirstRow : OpenClaim := { program := "ythihabjegpacaaa", sum := "9a2568a39e613256096205955225d5cf7463da8b13bfd1279bf3826c2939f594", func := "portage/portagelaw16.RecvFirst", spec := "recvFirst", inPlace := ["slices.overlaps[portage/api.Span[int64]]", "slices.overlaps[portage/recv.piece]"], unfollowed := true, recurses := true, apart := false }
def RecvFirstSaid : Prop := recvFirstRow.holds Try.pinned (OpenSpec.ofChange recvFirstSpec)

/-- ITS FALSE NEIGHBOUR: 'it returns false'. Refute it at one input. -/
def recvFirstWrong : ChangeSpec := { name := "recvFirst", fn := fun _ => fun
  | [d1, d2, d3] => { results := [.lit (.bool false)], args := [d1, d2, d3] }
  | _ => none }
def RecvFirstWrongFalsely : Prop := recvFirstRow.holds Try.pinned (OpenSpec.ofChange recvFirstWrong)

/- THE SECOND FORM. 'bulk': how many values and letters a reading holds, each counted each time it is reached (what is shared counts as often as it is met; a slice's spare places count too). A statement '..UptoSaid' is the law's where the arguments, and the package variables that the reading takes, are together of bulk at most 1048576: NARROWER than '..Said'. Prove '..Said' where nothing that the law and all that it calls make is longer than what came in: it says more and counts as full. Else prove '..UptoSaid'. A law counts once. -/
mutual
def uptoBulk {H : Type} : DataW H → Nat
  | .lit (.string bytes) => bytes.length + 1
  | .lit _ => 1
  | .nil => 1
  | .ptr d => uptoBulk d + 1
  | .slice elems spare => uptoBulkAll elems + uptoBulkAll spare + 1
  | .agg parts => uptoBulkAll parts + 1
  | .iface _ d => uptoBulk d + 1
  | .map entries => uptoBulkEntries entries + 1
  | .held _ => 1
def uptoBulkAll {H : Type} : List (DataW H) → Nat
  | [] => 0
  | d :: r => uptoBulk d + uptoBulkAll r
def uptoBulkEntries {H : Type} : List (Lit × DataW H) → Nat
  | [] => 0
  | x :: r => uptoBulkEntry x + uptoBulkEntries r
def uptoBulkEntry {H : Type} : Lit × DataW H → Nat
  | (.string bytes, d) => bytes.length + uptoBulk d + 1
  | (_, d) => uptoBulk d + 1
 end
def uptoSmall : (H : Type) → List (DataW H) → Bool := fun _ ds => decide (uptoBulkAll ds ≤ 1048576)
def OpenSpec.upto (s : _root_.Go.ChangeSpec) : _root_.Go.OpenSpec := { _root_.Go.OpenSpec.ofChange s with cond := some uptoSmall }

/-- 'portagelaw16.RecvOrders', WHERE WHAT IT READS IS OF BULK AT MOST 1048576: true; the input reads as it did. -/
def recvOrdersUptoRow : OpenClaim := { program := "ythihabjegpacaaa", sum := "9a2568a39e613256096205955225d5cf7463da8b13bfd1279bf3826c2939f594", func := "portage/portagelaw16.RecvOrders", spec := "recvOrders", inPlace := ["slices.overlaps[portage/api.Span[int64]]", "slices.overlaps[portage/recv.piece]"], unfollowed := true, recurses := true, apart := false, narrowed := true }
def RecvOrdersUptoSaid : Prop := recvOrdersUptoRow.holds Try.pinned (OpenSpec.upto recvOrdersSpec)

/-- 'portagelaw16.RecvBounds', WHERE WHAT IT READS IS OF BULK AT MOST 1048576: true; the input reads as it did. -/
def recvBoundsUptoRow : OpenClaim := { program := "ythihabjegpacaaa", sum := "9a2568a39e613256096205955225d5cf7463da8b13bfd1279bf3826c2939f594", func := "portage/portagelaw16.RecvBounds", spec := "recvBounds", inPlace := ["slices.overlaps[portage/api.Span[int64]]", "slices.overlaps[portage/recv.piece]"], unfollowed := true, recurses := true, apart := false, narrowed := true }
def RecvBoundsUptoSaid : Prop := recvBoundsUptoRow.holds Try.pinned (OpenSpec.upto recvBoundsSpec)

/-- 'portagelaw16.RecvFirst', WHERE WHAT IT READS IS OF BULK AT MOST 1048576: true; the input reads as it did. -/
def recvFirstUptoRow : OpenClaim := { program := "ythihabjegpacaaa", sum := "9a2568a39e613256096205955225d5cf7463da8b13bfd1279bf3826c2939f594", func := "portage/portagelaw16.RecvFirst", spec := "recvFirst", inPlace := ["slices.overlaps[portage/api.Span[int64]]", "slices.overlaps[portage/recv.piece]"], unfollowed := true, recurses := true, apart := false, narrowed := true }
def RecvFirstUptoSaid : Prop := recvFirstUptoRow.holds Try.pinned (OpenSpec.upto recvFirstSpec)

end Rows
end Go.Proofs.Ythihabjegpacaaa
