/-
  No cell of these rows narrows 'for every input' (looked for: loops, veiled, ifaces, maps, wideKeys, modest, calm, conditions, laid).
  DERIVED. THE GIVEN ROWS OF THIS SEAT. 6 by the template 'for every input the law returns true; each argument reads behind the call as it read before'; 0 by the template 'total and deterministic' (their statements: YtmcodfkmdpbjiaaTotals.lean).
  GIVEN WITH THE SEED: the statements are not yours to turn. If you find one false, say at which input.
  Laid BY PROGRAM, IN A SANDBOX (cutbox-rows.mjs): the forced cells as the released guide's own fill.sh prints them over the translation 3622a232c1864cb9… (all of the seat's roots in one cut). By AI agents, Wed Nov 11 2026. No macro, syntax, notation, axiom, sorry.
-/
import Derived.Test.YtmcodfkmdpbjiaaChecked
import GoSem.Claim
import GoSem.ClaimJoined
import GoSem.ClaimMapViews
import Derived.JoinedTies
import Derived.KernelRfl
namespace Go.Proofs.Ytmcodfkmdpbjiaa
/- THE CELL 'sum', in the pinned program and in every row, IS THE sha256 OF THE DUMP (.gsa) THAT YtmcodfkmdpbjiaaProg.lean LOADS. Nothing in Lean hashes anything: it is a label: what it is worth is what the hold of that sum in a sandbox is worth. -/
noncomputable def Try.pinned : Pinned := { name := "ytmcodfkmdpbjiaa", sum := "3622a232c1864cb9b91e2190c2643b776bbcac007fa254af62b0506d91b76af7", checked := Try.checked }
namespace Rows
def none {H : Type} : Left H := { results := [], args := [] }

/-- 'portagelaw09.RttPlays': WHATEVER THE INPUT: true; the input reads as it did. -/
def rttPlaysSpec : ChangeSpec := { name := "rttPlays", fn := fun _ => fun
  | [d1, d2, d3] => { results := [.lit (.bool true)], args := [d1, d2, d3] }
  | _ => none }
def rttPlaysRow : OpenClaim := { program := "ytmcodfkmdpbjiaa", sum := "3622a232c1864cb9b91e2190c2643b776bbcac007fa254af62b0506d91b76af7", func := "portage/portagelaw09.RttPlays", spec := "rttPlays", apart := false }
def RttPlaysSaid : Prop := rttPlaysRow.holds Try.pinned (OpenSpec.ofChange rttPlaysSpec)

/-- ITS FALSE NEIGHBOUR: 'it returns false'. Refute it at one input. -/
def rttPlaysWrong : ChangeSpec := { name := "rttPlays", fn := fun _ => fun
  | [d1, d2, d3] => { results := [.lit (.bool false)], args := [d1, d2, d3] }
  | _ => none }
def RttPlaysWrongFalsely : Prop := rttPlaysRow.holds Try.pinned (OpenSpec.ofChange rttPlaysWrong)

/-- 'portagelaw09.RttPTO': WHATEVER THE INPUT: true; the input reads as it did. -/
def rttPTOSpec : ChangeSpec := { name := "rttPTO", fn := fun _ => fun
  | [d1, d2, d3] => { results := [.lit (.bool true)], args := [d1, d2, d3] }
  | _ => none }
def rttPTORow : OpenClaim := { program := "ytmcodfkmdpbjiaa", sum := "3622a232c1864cb9b91e2190c2643b776bbcac007fa254af62b0506d91b76af7", func := "portage/portagelaw09.RttPTO", spec := "rttPTO", apart := false }
def RttPTOSaid : Prop := rttPTORow.holds Try.pinned (OpenSpec.ofChange rttPTOSpec)

/-- ITS FALSE NEIGHBOUR: 'it returns false'. Refute it at one input. -/
def rttPTOWrong : ChangeSpec := { name := "rttPTO", fn := fun _ => fun
  | [d1, d2, d3] => { results := [.lit (.bool false)], args := [d1, d2, d3] }
  | _ => none }
def RttPTOWrongFalsely : Prop := rttPTORow.holds Try.pinned (OpenSpec.ofChange rttPTOWrong)

/-- 'portagelaw09.RttBetween': WHATEVER THE INPUT: true; the input reads as it did. -/
def rttBetweenSpec : ChangeSpec := { name := "rttBetween", fn := fun _ => fun
  | [d1, d2, d3] => { results := [.lit (.bool true)], args := [d1, d2, d3] }
  | _ => none }
def rttBetweenRow : OpenClaim := { program := "ytmcodfkmdpbjiaa", sum := "3622a232c1864cb9b91e2190c2643b776bbcac007fa254af62b0506d91b76af7", func := "portage/portagelaw09.RttBetween", spec := "rttBetween", apart := false }
def RttBetweenSaid : Prop := rttBetweenRow.holds Try.pinned (OpenSpec.ofChange rttBetweenSpec)

/-- ITS FALSE NEIGHBOUR: 'it returns false'. Refute it at one input. -/
def rttBetweenWrong : ChangeSpec := { name := "rttBetween", fn := fun _ => fun
  | [d1, d2, d3] => { results := [.lit (.bool false)], args := [d1, d2, d3] }
  | _ => none }
def RttBetweenWrongFalsely : Prop := rttBetweenRow.holds Try.pinned (OpenSpec.ofChange rttBetweenWrong)

/-- 'portagelaw09.RttSettles': WHATEVER THE INPUT: true; the input reads as it did. -/
def rttSettlesSpec : ChangeSpec := { name := "rttSettles", fn := fun _ => fun
  | [d1, d2, d3] => { results := [.lit (.bool true)], args := [d1, d2, d3] }
  | _ => none }
def rttSettlesRow : OpenClaim := { program := "ytmcodfkmdpbjiaa", sum := "3622a232c1864cb9b91e2190c2643b776bbcac007fa254af62b0506d91b76af7", func := "portage/portagelaw09.RttSettles", spec := "rttSettles", apart := false }
def RttSettlesSaid : Prop := rttSettlesRow.holds Try.pinned (OpenSpec.ofChange rttSettlesSpec)

/-- ITS FALSE NEIGHBOUR: 'it returns false'. Refute it at one input. -/
def rttSettlesWrong : ChangeSpec := { name := "rttSettles", fn := fun _ => fun
  | [d1, d2, d3] => { results := [.lit (.bool false)], args := [d1, d2, d3] }
  | _ => none }
def RttSettlesWrongFalsely : Prop := rttSettlesRow.holds Try.pinned (OpenSpec.ofChange rttSettlesWrong)

/-- 'portagelaw09.RttDelay': WHATEVER THE INPUT: true; the input reads as it did. -/
def rttDelaySpec : ChangeSpec := { name := "rttDelay", fn := fun _ => fun
  | [d1, d2, d3] => { results := [.lit (.bool true)], args := [d1, d2, d3] }
  | _ => none }
def rttDelayRow : OpenClaim := { program := "ytmcodfkmdpbjiaa", sum := "3622a232c1864cb9b91e2190c2643b776bbcac007fa254af62b0506d91b76af7", func := "portage/portagelaw09.RttDelay", spec := "rttDelay", apart := false }
def RttDelaySaid : Prop := rttDelayRow.holds Try.pinned (OpenSpec.ofChange rttDelaySpec)

/-- ITS FALSE NEIGHBOUR: 'it returns false'. Refute it at one input. -/
def rttDelayWrong : ChangeSpec := { name := "rttDelay", fn := fun _ => fun
  | [d1, d2, d3] => { results := [.lit (.bool false)], args := [d1, d2, d3] }
  | _ => none }
def RttDelayWrongFalsely : Prop := rttDelayRow.holds Try.pinned (OpenSpec.ofChange rttDelayWrong)

/-- 'portagelaw09.RttRestart': WHATEVER THE INPUT: true; the input reads as it did. -/
def rttRestartSpec : ChangeSpec := { name := "rttRestart", fn := fun _ => fun
  | [d1, d2] => { results := [.lit (.bool true)], args := [d1, d2] }
  | _ => none }
def rttRestartRow : OpenClaim := { program := "ytmcodfkmdpbjiaa", sum := "3622a232c1864cb9b91e2190c2643b776bbcac007fa254af62b0506d91b76af7", func := "portage/portagelaw09.RttRestart", spec := "rttRestart", apart := false }
def RttRestartSaid : Prop := rttRestartRow.holds Try.pinned (OpenSpec.ofChange rttRestartSpec)

/-- ITS FALSE NEIGHBOUR: 'it returns false'. Refute it at one input. -/
def rttRestartWrong : ChangeSpec := { name := "rttRestart", fn := fun _ => fun
  | [d1, d2] => { results := [.lit (.bool false)], args := [d1, d2] }
  | _ => none }
def RttRestartWrongFalsely : Prop := rttRestartRow.holds Try.pinned (OpenSpec.ofChange rttRestartWrong)

/- THE SECOND FORM. 'bulk': how many values and letters a reading holds, each counted each time it is reached (what is shared counts as often as it is met; a slice's spare places count too). A statement '..UptoSaid' is the law's where the arguments, and the package variables that the reading takes, are together of bulk at most 1048576: NARROWER than '..Said'. Prove '..Said' where nothing that the law and all that it calls make is longer than what came in: it says more and counts as full. Else prove '..UptoSaid'. A law counts once. -/
mutual
def uptoBulk {H : Type} : DataW H → Nat
  | .lit (.string bytes) => bytes.length + 1
  | .lit _ => 1
  | .nil => 1
  | .ptr d => uptoBulk d + 1
  | .slice elems spare => uptoBulkAll elems + uptoBulkAll spare + 1
  | .agg parts => uptoBulkAll parts + 1
  | .iface _ d => uptoBulk d + 1
  | .map entries => uptoBulkEntries entries + 1
  | .held _ => 1
def uptoBulkAll {H : Type} : List (DataW H) → Nat
  | [] => 0
  | d :: r => uptoBulk d + uptoBulkAll r
def uptoBulkEntries {H : Type} : List (Lit × DataW H) → Nat
  | [] => 0
  | x :: r => uptoBulkEntry x + uptoBulkEntries r
def uptoBulkEntry {H : Type} : Lit × DataW H → Nat
  | (.string bytes, d) => bytes.length + uptoBulk d + 1
  | (_, d) => uptoBulk d + 1
 end
def uptoSmall : (H : Type) → List (DataW H) → Bool := fun _ ds => decide (uptoBulkAll ds ≤ 1048576)
def OpenSpec.upto (s : _root_.Go.ChangeSpec) : _root_.Go.OpenSpec := { _root_.Go.OpenSpec.ofChange s with cond := some uptoSmall }

/-- 'portagelaw09.RttPlays', WHERE WHAT IT READS IS OF BULK AT MOST 1048576: true; the input reads as it did. -/
def rttPlaysUptoRow : OpenClaim := { program := "ytmcodfkmdpbjiaa", sum := "3622a232c1864cb9b91e2190c2643b776bbcac007fa254af62b0506d91b76af7", func := "portage/portagelaw09.RttPlays", spec := "rttPlays", apart := false, narrowed := true }
def RttPlaysUptoSaid : Prop := rttPlaysUptoRow.holds Try.pinned (OpenSpec.upto rttPlaysSpec)

/-- 'portagelaw09.RttPTO', WHERE WHAT IT READS IS OF BULK AT MOST 1048576: true; the input reads as it did. -/
def rttPTOUptoRow : OpenClaim := { program := "ytmcodfkmdpbjiaa", sum := "3622a232c1864cb9b91e2190c2643b776bbcac007fa254af62b0506d91b76af7", func := "portage/portagelaw09.RttPTO", spec := "rttPTO", apart := false, narrowed := true }
def RttPTOUptoSaid : Prop := rttPTOUptoRow.holds Try.pinned (OpenSpec.upto rttPTOSpec)

/-- 'portagelaw09.RttBetween', WHERE WHAT IT READS IS OF BULK AT MOST 1048576: true; the input reads as it did. -/
def rttBetweenUptoRow : OpenClaim := { program := "ytmcodfkmdpbjiaa", sum := "3622a232c1864cb9b91e2190c2643b776bbcac007fa254af62b0506d91b76af7", func := "portage/portagelaw09.RttBetween", spec := "rttBetween", apart := false, narrowed := true }
def RttBetweenUptoSaid : Prop := rttBetweenUptoRow.holds Try.pinned (OpenSpec.upto rttBetweenSpec)

/-- 'portagelaw09.RttSettles', WHERE WHAT IT READS IS OF BULK AT MOST 1048576: true; the input reads as it did. -/
def rttSettlesUptoRow : OpenClaim := { program := "ytmcodfkmdpbjiaa", sum := "3622a232c1864cb9b91e2190c2643b776bbcac007fa254af62b0506d91b76af7", func := "portage/portagelaw09.RttSettles", spec := "rttSettles", apart := false, narrowed := true }
def RttSettlesUptoSaid : Prop := rttSettlesUptoRow.holds Try.pinned (OpenSpec.upto rttSettlesSpec)

/-- 'portagelaw09.RttDelay', WHERE WHAT IT READS IS OF BULK AT MOST 1048576: true; the input reads as it did. -/
def rttDelayUptoRow : OpenClaim := { program := "ytmcodfkmdpbjiaa", sum := "3622a232c1864cb9b91e2190c2643b776bbcac007fa254af62b0506d91b76af7", func := "portage/portagelaw09.RttDelay", spec := "rttDelay", apart := false, narrowed := true }
def RttDelayUptoSaid : Prop := rttDelayUptoRow.holds Try.pinned (OpenSpec.upto rttDelaySpec)

/-- 'portagelaw09.RttRestart', WHERE WHAT IT READS IS OF BULK AT MOST 1048576: true; the input reads as it did. -/
def rttRestartUptoRow : OpenClaim := { program := "ytmcodfkmdpbjiaa", sum := "3622a232c1864cb9b91e2190c2643b776bbcac007fa254af62b0506d91b76af7", func := "portage/portagelaw09.RttRestart", spec := "rttRestart", apart := false, narrowed := true }
def RttRestartUptoSaid : Prop := rttRestartUptoRow.holds Try.pinned (OpenSpec.upto rttRestartSpec)

end Rows
end Go.Proofs.Ytmcodfkmdpbjiaa
