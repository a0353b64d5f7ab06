/-
  No cell of these rows narrows 'for every input' (looked for: loops, veiled, ifaces, maps, wideKeys, modest, calm, conditions, laid).
  DERIVED. THE GIVEN ROWS OF THIS SEAT. 6 by the template 'for every input the law returns true; each argument reads behind the call as it read before'; 0 by the template 'total and deterministic' (their statements: YthpnbajhogoinaaTotals.lean).
  GIVEN WITH THE SEED: the statements are not yours to turn. If you find one false, say at which input.
  Laid BY PROGRAM, IN A SANDBOX (cutbox-rows.mjs): the forced cells as the released guide's own fill.sh prints them over the translation af4b80a3efc2599a… (all of the seat's roots in one cut). By AI agents, Wed Nov 11 2026. No macro, syntax, notation, axiom, sorry.
-/
import Derived.Test.YthpnbajhogoinaaChecked
import GoSem.Claim
import GoSem.ClaimJoined
import GoSem.ClaimMapViews
import Derived.JoinedTies
import Derived.KernelRfl
namespace Go.Proofs.Ythpnbajhogoinaa
/- THE CELL 'sum', in the pinned program and in every row, IS THE sha256 OF THE DUMP (.gsa) THAT YthpnbajhogoinaaProg.lean LOADS. Nothing in Lean hashes anything: it is a label: what it is worth is what the hold of that sum in a sandbox is worth. -/
noncomputable def Try.pinned : Pinned := { name := "ythpnbajhogoinaa", sum := "af4b80a3efc2599a0eec349daccdb1771f1630906ecee344a196de6e9c41cfcf", checked := Try.checked }
namespace Rows
def none {H : Type} : Left H := { results := [], args := [] }

/-- 'portagelaw11.CubicPlays': WHATEVER THE INPUT: true; the input reads as it did. -/
def cubicPlaysSpec : ChangeSpec := { name := "cubicPlays", fn := fun _ => fun
  | [d1, d2, d3] => { results := [.lit (.bool true)], args := [d1, d2, d3] }
  | _ => none }
def cubicPlaysRow : OpenClaim := { program := "ythpnbajhogoinaa", sum := "af4b80a3efc2599a0eec349daccdb1771f1630906ecee344a196de6e9c41cfcf", func := "portage/portagelaw11.CubicPlays", spec := "cubicPlays", apart := false }
def CubicPlaysSaid : Prop := cubicPlaysRow.holds Try.pinned (OpenSpec.ofChange cubicPlaysSpec)

/-- ITS FALSE NEIGHBOUR: 'it returns false'. Refute it at one input. -/
def cubicPlaysWrong : ChangeSpec := { name := "cubicPlays", fn := fun _ => fun
  | [d1, d2, d3] => { results := [.lit (.bool false)], args := [d1, d2, d3] }
  | _ => none }
def CubicPlaysWrongFalsely : Prop := cubicPlaysRow.holds Try.pinned (OpenSpec.ofChange cubicPlaysWrong)

/-- 'portagelaw11.CubicFalls': WHATEVER THE INPUT: true; the input reads as it did. -/
def cubicFallsSpec : ChangeSpec := { name := "cubicFalls", fn := fun _ => fun
  | [d1, d2] => { results := [.lit (.bool true)], args := [d1, d2] }
  | _ => none }
def cubicFallsRow : OpenClaim := { program := "ythpnbajhogoinaa", sum := "af4b80a3efc2599a0eec349daccdb1771f1630906ecee344a196de6e9c41cfcf", func := "portage/portagelaw11.CubicFalls", spec := "cubicFalls", apart := false }
def CubicFallsSaid : Prop := cubicFallsRow.holds Try.pinned (OpenSpec.ofChange cubicFallsSpec)

/-- ITS FALSE NEIGHBOUR: 'it returns false'. Refute it at one input. -/
def cubicFallsWrong : ChangeSpec := { name := "cubicFalls", fn := fun _ => fun
  | [d1, d2] => { results := [.lit (.bool false)], args := [d1, d2] }
  | _ => none }
def CubicFallsWrongFalsely : Prop := cubicFallsRow.holds Try.pinned (OpenSpec.ofChange cubicFallsWrong)

/-- 'portagelaw11.CubicOnce': WHATEVER THE INPUT: true; the input reads as it did. -/
def cubicOnceSpec : ChangeSpec := { name := "cubicOnce", fn := fun _ => fun
  | [d1, d2, d3] => { results := [.lit (.bool true)], args := [d1, d2, d3] }
  | _ => none }
def cubicOnceRow : OpenClaim := { program := "ythpnbajhogoinaa", sum := "af4b80a3efc2599a0eec349daccdb1771f1630906ecee344a196de6e9c41cfcf", func := "portage/portagelaw11.CubicOnce", spec := "cubicOnce", apart := false }
def CubicOnceSaid : Prop := cubicOnceRow.holds Try.pinned (OpenSpec.ofChange cubicOnceSpec)

/-- ITS FALSE NEIGHBOUR: 'it returns false'. Refute it at one input. -/
def cubicOnceWrong : ChangeSpec := { name := "cubicOnce", fn := fun _ => fun
  | [d1, d2, d3] => { results := [.lit (.bool false)], args := [d1, d2, d3] }
  | _ => none }
def CubicOnceWrongFalsely : Prop := cubicOnceRow.holds Try.pinned (OpenSpec.ofChange cubicOnceWrong)

/-- 'portagelaw11.CubicStarts': WHATEVER THE INPUT: true; the input reads as it did. -/
def cubicStartsSpec : ChangeSpec := { name := "cubicStarts", fn := fun _ => fun
  | [d1, d2] => { results := [.lit (.bool true)], args := [d1, d2] }
  | _ => none }
def cubicStartsRow : OpenClaim := { program := "ythpnbajhogoinaa", sum := "af4b80a3efc2599a0eec349daccdb1771f1630906ecee344a196de6e9c41cfcf", func := "portage/portagelaw11.CubicStarts", spec := "cubicStarts", apart := false }
def CubicStartsSaid : Prop := cubicStartsRow.holds Try.pinned (OpenSpec.ofChange cubicStartsSpec)

/-- ITS FALSE NEIGHBOUR: 'it returns false'. Refute it at one input. -/
def cubicStartsWrong : ChangeSpec := { name := "cubicStarts", fn := fun _ => fun
  | [d1, d2] => { results := [.lit (.bool false)], args := [d1, d2] }
  | _ => none }
def CubicStartsWrongFalsely : Prop := cubicStartsRow.holds Try.pinned (OpenSpec.ofChange cubicStartsWrong)

/-- 'portagelaw11.CubicShifts': WHATEVER THE INPUT: true; the input reads as it did. -/
def cubicShiftsSpec : ChangeSpec := { name := "cubicShifts", fn := fun _ => fun
  | [d1, d2, d3] => { results := [.lit (.bool true)], args := [d1, d2, d3] }
  | _ => none }
def cubicShiftsRow : OpenClaim := { program := "ythpnbajhogoinaa", sum := "af4b80a3efc2599a0eec349daccdb1771f1630906ecee344a196de6e9c41cfcf", func := "portage/portagelaw11.CubicShifts", spec := "cubicShifts", apart := false }
def CubicShiftsSaid : Prop := cubicShiftsRow.holds Try.pinned (OpenSpec.ofChange cubicShiftsSpec)

/-- ITS FALSE NEIGHBOUR: 'it returns false'. Refute it at one input. -/
def cubicShiftsWrong : ChangeSpec := { name := "cubicShifts", fn := fun _ => fun
  | [d1, d2, d3] => { results := [.lit (.bool false)], args := [d1, d2, d3] }
  | _ => none }
def CubicShiftsWrongFalsely : Prop := cubicShiftsRow.holds Try.pinned (OpenSpec.ofChange cubicShiftsWrong)

/-- 'portagelaw11.CubicWaits': WHATEVER THE INPUT: true; the input reads as it did. -/
def cubicWaitsSpec : ChangeSpec := { name := "cubicWaits", fn := fun _ => fun
  | [d1, d2, d3] => { results := [.lit (.bool true)], args := [d1, d2, d3] }
  | _ => none }
def cubicWaitsRow : OpenClaim := { program := "ythpnbajhogoinaa", sum := "af4b80a3efc2599a0eec349daccdb1771f1630906ecee344a196de6e9c41cfcf", func := "portage/portagelaw11.CubicWaits", spec := "cubicWaits", apart := false }
def CubicWaitsSaid : Prop := cubicWaitsRow.holds Try.pinned (OpenSpec.ofChange cubicWaitsSpec)

/-- ITS FALSE NEIGHBOUR: 'it returns false'. Refute it at one input. -/
def cubicWaitsWrong : ChangeSpec := { name := "cubicWaits", fn := fun _ => fun
  | [d1, d2, d3] => { results := [.lit (.bool false)], args := [d1, d2, d3] }
  | _ => none }
def CubicWaitsWrongFalsely : Prop := cubicWaitsRow.holds Try.pinned (OpenSpec.ofChange cubicWaitsWrong)

/- THE SECOND FORM. 'bulk': how many values and letters a reading holds, each counted each time it is reached (what is shared counts as often as it is met; a slice's spare places count too). A statement '..UptoSaid' is the law's where the arguments, and the package variables that the reading takes, are together of bulk at most 1048576: NARROWER than '..Said'. Prove '..Said' where nothing that the law and all that it calls make is longer than what came in: it says more and counts as full. Else prove '..UptoSaid'. A law counts once. -/
mutual
def uptoBulk {H : Type} : DataW H → Nat
  | .lit (.string bytes) => bytes.length + 1
  | .lit _ => 1
  | .nil => 1
  | .ptr d => uptoBulk d + 1
  | .slice elems spare => uptoBulkAll elems + uptoBulkAll spare + 1
  | .agg parts => uptoBulkAll parts + 1
  | .iface _ d => uptoBulk d + 1
  | .map entries => uptoBulkEntries entries + 1
  | .held _ => 1
def uptoBulkAll {H : Type} : List (DataW H) → Nat
  | [] => 0
  | d :: r => uptoBulk d + uptoBulkAll r
def uptoBulkEntries {H : Type} : List (Lit × DataW H) → Nat
  | [] => 0
  | x :: r => uptoBulkEntry x + uptoBulkEntries r
def uptoBulkEntry {H : Type} : Lit × DataW H → Nat
  | (.string bytes, d) => bytes.length + uptoBulk d + 1
  | (_, d) => uptoBulk d + 1
 end
def uptoSmall : (H : Type) → List (DataW H) → Bool := fun _ ds => decide (uptoBulkAll ds ≤ 1048576)
def OpenSpec.upto (s : _root_.Go.ChangeSpec) : _root_.Go.OpenSpec := { _root_.Go.OpenSpec.ofChange s with cond := some uptoSmall }

/-- 'portagelaw11.CubicPlays', WHERE WHAT IT READS IS OF BULK AT MOST 1048576: true; the input reads as it did. -/
def cubicPlaysUptoRow : OpenClaim := { program := "ythpnbajhogoinaa", sum := "af4b80a3efc2599a0eec349daccdb1771f1630906ecee344a196de6e9c41cfcf", func := "portage/portagelaw11.CubicPlays", spec := "cubicPlays", apart := false, narrowed := true }
def CubicPlaysUptoSaid : Prop := cubicPlaysUptoRow.holds Try.pinned (OpenSpec.upto cubicPlaysSpec)

/-- 'portagelaw11.CubicFalls', WHERE WHAT IT READS IS OF BULK AT MOST 1048576: true; the input reads as it did. -/
def cubicFallsUptoRow : OpenClaim := { program := "ythpnbajhogoinaa", sum := "af4b80a3efc2599a0eec349daccdb1771f1630906ecee344a196de6e9c41cfcf", func := "portage/portagelaw11.CubicFalls", spec := "cubicFalls", apart := false, narrowed := true }
def CubicFallsUptoSaid : Prop := cubicFallsUptoRow.holds Try.pinned (OpenSpec.upto cubicFallsSpec)

/-- 'portagelaw11.CubicOnce', WHERE WHAT IT READS IS OF BULK AT MOST 1048576: true; the input reads as it did. -/
def cubicOnceUptoRow : OpenClaim := { program := "ythpnbajhogoinaa", sum := "af4b80a3efc2599a0eec349daccdb1771f1630906ecee344a196de6e9c41cfcf", func := "portage/portagelaw11.CubicOnce", spec := "cubicOnce", apart := false, narrowed := true }
def CubicOnceUptoSaid : Prop := cubicOnceUptoRow.holds Try.pinned (OpenSpec.upto cubicOnceSpec)

/-- 'portagelaw11.CubicStarts', WHERE WHAT IT READS IS OF BULK AT MOST 1048576: true; the input reads as it did. -/
def cubicStartsUptoRow : OpenClaim := { program := "ythpnbajhogoinaa", sum := "af4b80a3efc2599a0eec349daccdb1771f1630906ecee344a196de6e9c41cfcf", func := "portage/portagelaw11.CubicStarts", spec := "cubicStarts", apart := false, narrowed := true }
def CubicStartsUptoSaid : Prop := cubicStartsUptoRow.holds Try.pinned (OpenSpec.upto cubicStartsSpec)

/-- 'portagelaw11.CubicShifts', WHERE WHAT IT READS IS OF BULK AT MOST 1048576: true; the input reads as it did. -/
def cubicShiftsUptoRow : OpenClaim := { program := "ythpnbajhogoinaa", sum := "af4b80a3efc2599a0eec349daccdb1771f1630906ecee344a196de6e9c41cfcf", func := "portage/portagelaw11.CubicShifts", spec := "cubicShifts", apart := false, narrowed := true }
def CubicShiftsUptoSaid : Prop := cubicShiftsUptoRow.holds Try.pinned (OpenSpec.upto cubicShiftsSpec)

/-- 'portagelaw11.CubicWaits', WHERE WHAT IT READS IS OF BULK AT MOST 1048576: true; the input reads as it did. -/
def cubicWaitsUptoRow : OpenClaim := { program := "ythpnbajhogoinaa", sum := "af4b80a3efc2599a0eec349daccdb1771f1630906ecee344a196de6e9c41cfcf", func := "portage/portagelaw11.CubicWaits", spec := "cubicWaits", apart := false, narrowed := true }
def CubicWaitsUptoSaid : Prop := cubicWaitsUptoRow.holds Try.pinned (OpenSpec.upto cubicWaitsSpec)

end Rows
end Go.Proofs.Ythpnbajhogoinaa
