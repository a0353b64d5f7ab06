/-
  No cell of these rows narrows 'for every input' (looked for: loops, veiled, ifaces, maps, wideKeys, modest, calm, conditions, laid).
  DERIVED. THE GIVEN ROWS OF THIS SEAT. 6 by the template 'for every input the law returns true; each argument reads behind the call as it read before'; 0 by the template 'total and deterministic' (their statements: YtgmnlhbfhdgidaaTotals.lean).
  GIVEN WITH THE SEED: the statements are not yours to turn. If you find one false, say at which input.
  Laid BY PROGRAM, IN A SANDBOX (cutbox-rows.mjs): the forced cells as the released guide's own fill.sh prints them over the translation 37462e34c345ec73… (all of the seat's roots in one cut). By AI agents, Wed Nov 11 2026. No macro, syntax, notation, axiom, sorry.
-/
import Derived.Test.YtgmnlhbfhdgidaaChecked
import GoSem.Claim
import GoSem.ClaimJoined
import GoSem.ClaimMapViews
import Derived.JoinedTies
import Derived.KernelRfl
namespace Go.Proofs.Ytgmnlhbfhdgidaa
/- THE CELL 'sum', in the pinned program and in every row, IS THE sha256 OF THE DUMP (.gsa) THAT YtgmnlhbfhdgidaaProg.lean LOADS. Nothing in Lean hashes anything: it is a label: what it is worth is what the hold of that sum in a sandbox is worth. -/
noncomputable def Try.pinned : Pinned := { name := "ytgmnlhbfhdgidaa", sum := "37462e34c345ec73a8f094beced3d35eaa776ac200d7aaea575cbba4285f44fe", checked := Try.checked }
namespace Rows
def none {H : Type} : Left H := { results := [], args := [] }

/-- 'portagelaw10.RenoPlays': WHATEVER THE INPUT: true; the input reads as it did. -/
def renoPlaysSpec : ChangeSpec := { name := "renoPlays", fn := fun _ => fun
  | [d1, d2, d3] => { results := [.lit (.bool true)], args := [d1, d2, d3] }
  | _ => none }
def renoPlaysRow : OpenClaim := { program := "ytgmnlhbfhdgidaa", sum := "37462e34c345ec73a8f094beced3d35eaa776ac200d7aaea575cbba4285f44fe", func := "portage/portagelaw10.RenoPlays", spec := "renoPlays", apart := false }
def RenoPlaysSaid : Prop := renoPlaysRow.holds Try.pinned (OpenSpec.ofChange renoPlaysSpec)

/-- ITS FALSE NEIGHBOUR: 'it returns false'. Refute it at one input. -/
def renoPlaysWrong : ChangeSpec := { name := "renoPlays", fn := fun _ => fun
  | [d1, d2, d3] => { results := [.lit (.bool false)], args := [d1, d2, d3] }
  | _ => none }
def RenoPlaysWrongFalsely : Prop := renoPlaysRow.holds Try.pinned (OpenSpec.ofChange renoPlaysWrong)

/-- 'portagelaw10.RenoFalls': WHATEVER THE INPUT: true; the input reads as it did. -/
def renoFallsSpec : ChangeSpec := { name := "renoFalls", fn := fun _ => fun
  | [d1, d2] => { results := [.lit (.bool true)], args := [d1, d2] }
  | _ => none }
def renoFallsRow : OpenClaim := { program := "ytgmnlhbfhdgidaa", sum := "37462e34c345ec73a8f094beced3d35eaa776ac200d7aaea575cbba4285f44fe", func := "portage/portagelaw10.RenoFalls", spec := "renoFalls", apart := false }
def RenoFallsSaid : Prop := renoFallsRow.holds Try.pinned (OpenSpec.ofChange renoFallsSpec)

/-- ITS FALSE NEIGHBOUR: 'it returns false'. Refute it at one input. -/
def renoFallsWrong : ChangeSpec := { name := "renoFalls", fn := fun _ => fun
  | [d1, d2] => { results := [.lit (.bool false)], args := [d1, d2] }
  | _ => none }
def RenoFallsWrongFalsely : Prop := renoFallsRow.holds Try.pinned (OpenSpec.ofChange renoFallsWrong)

/-- 'portagelaw10.RenoOnce': WHATEVER THE INPUT: true; the input reads as it did. -/
def renoOnceSpec : ChangeSpec := { name := "renoOnce", fn := fun _ => fun
  | [d1, d2, d3] => { results := [.lit (.bool true)], args := [d1, d2, d3] }
  | _ => none }
def renoOnceRow : OpenClaim := { program := "ytgmnlhbfhdgidaa", sum := "37462e34c345ec73a8f094beced3d35eaa776ac200d7aaea575cbba4285f44fe", func := "portage/portagelaw10.RenoOnce", spec := "renoOnce", apart := false }
def RenoOnceSaid : Prop := renoOnceRow.holds Try.pinned (OpenSpec.ofChange renoOnceSpec)

/-- ITS FALSE NEIGHBOUR: 'it returns false'. Refute it at one input. -/
def renoOnceWrong : ChangeSpec := { name := "renoOnce", fn := fun _ => fun
  | [d1, d2, d3] => { results := [.lit (.bool false)], args := [d1, d2, d3] }
  | _ => none }
def RenoOnceWrongFalsely : Prop := renoOnceRow.holds Try.pinned (OpenSpec.ofChange renoOnceWrong)

/-- 'portagelaw10.RenoStarts': WHATEVER THE INPUT: true; the input reads as it did. -/
def renoStartsSpec : ChangeSpec := { name := "renoStarts", fn := fun _ => fun
  | [d1, d2] => { results := [.lit (.bool true)], args := [d1, d2] }
  | _ => none }
def renoStartsRow : OpenClaim := { program := "ytgmnlhbfhdgidaa", sum := "37462e34c345ec73a8f094beced3d35eaa776ac200d7aaea575cbba4285f44fe", func := "portage/portagelaw10.RenoStarts", spec := "renoStarts", apart := false }
def RenoStartsSaid : Prop := renoStartsRow.holds Try.pinned (OpenSpec.ofChange renoStartsSpec)

/-- ITS FALSE NEIGHBOUR: 'it returns false'. Refute it at one input. -/
def renoStartsWrong : ChangeSpec := { name := "renoStarts", fn := fun _ => fun
  | [d1, d2] => { results := [.lit (.bool false)], args := [d1, d2] }
  | _ => none }
def RenoStartsWrongFalsely : Prop := renoStartsRow.holds Try.pinned (OpenSpec.ofChange renoStartsWrong)

/-- 'portagelaw10.RenoAvoids': WHATEVER THE INPUT: true; the input reads as it did. -/
def renoAvoidsSpec : ChangeSpec := { name := "renoAvoids", fn := fun _ => fun
  | [d1, d2, d3] => { results := [.lit (.bool true)], args := [d1, d2, d3] }
  | _ => none }
def renoAvoidsRow : OpenClaim := { program := "ytgmnlhbfhdgidaa", sum := "37462e34c345ec73a8f094beced3d35eaa776ac200d7aaea575cbba4285f44fe", func := "portage/portagelaw10.RenoAvoids", spec := "renoAvoids", apart := false }
def RenoAvoidsSaid : Prop := renoAvoidsRow.holds Try.pinned (OpenSpec.ofChange renoAvoidsSpec)

/-- ITS FALSE NEIGHBOUR: 'it returns false'. Refute it at one input. -/
def renoAvoidsWrong : ChangeSpec := { name := "renoAvoids", fn := fun _ => fun
  | [d1, d2, d3] => { results := [.lit (.bool false)], args := [d1, d2, d3] }
  | _ => none }
def RenoAvoidsWrongFalsely : Prop := renoAvoidsRow.holds Try.pinned (OpenSpec.ofChange renoAvoidsWrong)

/-- 'portagelaw10.RenoLimited': WHATEVER THE INPUT: true; the input reads as it did. -/
def renoLimitedSpec : ChangeSpec := { name := "renoLimited", fn := fun _ => fun
  | [d1, d2, d3] => { results := [.lit (.bool true)], args := [d1, d2, d3] }
  | _ => none }
def renoLimitedRow : OpenClaim := { program := "ytgmnlhbfhdgidaa", sum := "37462e34c345ec73a8f094beced3d35eaa776ac200d7aaea575cbba4285f44fe", func := "portage/portagelaw10.RenoLimited", spec := "renoLimited", apart := false }
def RenoLimitedSaid : Prop := renoLimitedRow.holds Try.pinned (OpenSpec.ofChange renoLimitedSpec)

/-- ITS FALSE NEIGHBOUR: 'it returns false'. Refute it at one input. -/
def renoLimitedWrong : ChangeSpec := { name := "renoLimited", fn := fun _ => fun
  | [d1, d2, d3] => { results := [.lit (.bool false)], args := [d1, d2, d3] }
  | _ => none }
def RenoLimitedWrongFalsely : Prop := renoLimitedRow.holds Try.pinned (OpenSpec.ofChange renoLimitedWrong)

/- THE SECOND FORM. 'bulk': how many values and letters a reading holds, each counted each time it is reached (what is shared counts as often as it is met; a slice's spare places count too). A statement '..UptoSaid' is the law's where the arguments, and the package variables that the reading takes, are together of bulk at most 1048576: NARROWER than '..Said'. Prove '..Said' where nothing that the law and all that it calls make is longer than what came in: it says more and counts as full. Else prove '..UptoSaid'. A law counts once. -/
mutual
def uptoBulk {H : Type} : DataW H → Nat
  | .lit (.string bytes) => bytes.length + 1
  | .lit _ => 1
  | .nil => 1
  | .ptr d => uptoBulk d + 1
  | .slice elems spare => uptoBulkAll elems + uptoBulkAll spare + 1
  | .agg parts => uptoBulkAll parts + 1
  | .iface _ d => uptoBulk d + 1
  | .map entries => uptoBulkEntries entries + 1
  | .held _ => 1
def uptoBulkAll {H : Type} : List (DataW H) → Nat
  | [] => 0
  | d :: r => uptoBulk d + uptoBulkAll r
def uptoBulkEntries {H : Type} : List (Lit × DataW H) → Nat
  | [] => 0
  | x :: r => uptoBulkEntry x + uptoBulkEntries r
def uptoBulkEntry {H : Type} : Lit × DataW H → Nat
  | (.string bytes, d) => bytes.length + uptoBulk d + 1
  | (_, d) => uptoBulk d + 1
 end
def uptoSmall : (H : Type) → List (DataW H) → Bool := fun _ ds => decide (uptoBulkAll ds ≤ 1048576)
def OpenSpec.upto (s : _root_.Go.ChangeSpec) : _root_.Go.OpenSpec := { _root_.Go.OpenSpec.ofChange s with cond := some uptoSmall }

/-- 'portagelaw10.RenoPlays', WHERE WHAT IT READS IS OF BULK AT MOST 1048576: true; the input reads as it did. -/
def renoPlaysUptoRow : OpenClaim := { program := "ytgmnlhbfhdgidaa", sum := "37462e34c345ec73a8f094beced3d35eaa776ac200d7aaea575cbba4285f44fe", func := "portage/portagelaw10.RenoPlays", spec := "renoPlays", apart := false, narrowed := true }
def RenoPlaysUptoSaid : Prop := renoPlaysUptoRow.holds Try.pinned (OpenSpec.upto renoPlaysSpec)

/-- 'portagelaw10.RenoFalls', WHERE WHAT IT READS IS OF BULK AT MOST 1048576: true; the input reads as it did. -/
def renoFallsUptoRow : OpenClaim := { program := "ytgmnlhbfhdgidaa", sum := "37462e34c345ec73a8f094beced3d35eaa776ac200d7aaea575cbba4285f44fe", func := "portage/portagelaw10.RenoFalls", spec := "renoFalls", apart := false, narrowed := true }
def RenoFallsUptoSaid : Prop := renoFallsUptoRow.holds Try.pinned (OpenSpec.upto renoFallsSpec)

/-- 'portagelaw10.RenoOnce', WHERE WHAT IT READS IS OF BULK AT MOST 1048576: true; the input reads as it did. -/
def renoOnceUptoRow : OpenClaim := { program := "ytgmnlhbfhdgidaa", sum := "37462e34c345ec73a8f094beced3d35eaa776ac200d7aaea575cbba4285f44fe", func := "portage/portagelaw10.RenoOnce", spec := "renoOnce", apart := false, narrowed := true }
def RenoOnceUptoSaid : Prop := renoOnceUptoRow.holds Try.pinned (OpenSpec.upto renoOnceSpec)

/-- 'portagelaw10.RenoStarts', WHERE WHAT IT READS IS OF BULK AT MOST 1048576: true; the input reads as it did. -/
def renoStartsUptoRow : OpenClaim := { program := "ytgmnlhbfhdgidaa", sum := "37462e34c345ec73a8f094beced3d35eaa776ac200d7aaea575cbba4285f44fe", func := "portage/portagelaw10.RenoStarts", spec := "renoStarts", apart := false, narrowed := true }
def RenoStartsUptoSaid : Prop := renoStartsUptoRow.holds Try.pinned (OpenSpec.upto renoStartsSpec)

/-- 'portagelaw10.RenoAvoids', WHERE WHAT IT READS IS OF BULK AT MOST 1048576: true; the input reads as it did. -/
def renoAvoidsUptoRow : OpenClaim := { program := "ytgmnlhbfhdgidaa", sum := "37462e34c345ec73a8f094beced3d35eaa776ac200d7aaea575cbba4285f44fe", func := "portage/portagelaw10.RenoAvoids", spec := "renoAvoids", apart := false, narrowed := true }
def RenoAvoidsUptoSaid : Prop := renoAvoidsUptoRow.holds Try.pinned (OpenSpec.upto renoAvoidsSpec)

/-- 'portagelaw10.RenoLimited', WHERE WHAT IT READS IS OF BULK AT MOST 1048576: true; the input reads as it did. -/
def renoLimitedUptoRow : OpenClaim := { program := "ytgmnlhbfhdgidaa", sum := "37462e34c345ec73a8f094beced3d35eaa776ac200d7aaea575cbba4285f44fe", func := "portage/portagelaw10.RenoLimited", spec := "renoLimited", apart := false, narrowed := true }
def RenoLimitedUptoSaid : Prop := renoLimitedUptoRow.holds Try.pinned (OpenSpec.upto renoLimitedSpec)

end Rows
end Go.Proofs.Ytgmnlhbfhdgidaa
