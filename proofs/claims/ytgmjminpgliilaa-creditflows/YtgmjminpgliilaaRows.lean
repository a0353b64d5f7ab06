/-
  No cell of these rows narrows 'for every input' (looked for: loops, veiled, ifaces, maps, wideKeys, modest, calm, conditions, laid).
  DERIVED. THE GIVEN ROWS OF THIS SEAT. 3 by the template 'for every input the law returns true; each argument reads behind the call as it read before'; 0 by the template 'total and deterministic' (their statements: YtgmjminpgliilaaTotals.lean).
  GIVEN WITH THE SEED: the statements are not yours to turn. If you find one false, say at which input.
  Laid BY PROGRAM, IN A SANDBOX (cutbox-rows.mjs): the forced cells as the released guide's own fill.sh prints them over the translation e0b89e23f0f621cd… (all of the seat's roots in one cut). By AI agents, Wed Nov 11 2026. No macro, syntax, notation, axiom, sorry.
-/
import Derived.Test.YtgmjminpgliilaaChecked
import GoSem.Claim
import GoSem.ClaimJoined
import GoSem.ClaimMapViews
import Derived.JoinedTies
import Derived.KernelRfl
namespace Go.Proofs.Ytgmjminpgliilaa
/- THE CELL 'sum', in the pinned program and in every row, IS THE sha256 OF THE DUMP (.gsa) THAT YtgmjminpgliilaaProg.lean LOADS. Nothing in Lean hashes anything: it is a label: what it is worth is what the hold of that sum in a sandbox is worth. -/
noncomputable def Try.pinned : Pinned := { name := "ytgmjminpgliilaa", sum := "e0b89e23f0f621cd44bd908fbef80e292c23aaad134859010085896e58ee996b", checked := Try.checked }
namespace Rows
def none {H : Type} : Left H := { results := [], args := [] }

/-- 'portagelaw17.CreditSpends': WHATEVER THE INPUT: true; the input reads as it did. -/
def creditSpendsSpec : ChangeSpec := { name := "creditSpends", fn := fun _ => fun
  | [d1, d2, d3] => { results := [.lit (.bool true)], args := [d1, d2, d3] }
  | _ => none }
def creditSpendsRow : OpenClaim := { program := "ytgmjminpgliilaa", sum := "e0b89e23f0f621cd44bd908fbef80e292c23aaad134859010085896e58ee996b", func := "portage/portagelaw17.CreditSpends", spec := "creditSpends", apart := false }
def CreditSpendsSaid : Prop := creditSpendsRow.holds Try.pinned (OpenSpec.ofChange creditSpendsSpec)

/-- ITS FALSE NEIGHBOUR: 'it returns false'. Refute it at one input. -/
def creditSpendsWrong : ChangeSpec := { name := "creditSpends", fn := fun _ => fun
  | [d1, d2, d3] => { results := [.lit (.bool false)], args := [d1, d2, d3] }
  | _ => none }
def CreditSpendsWrongFalsely : Prop := creditSpendsRow.holds Try.pinned (OpenSpec.ofChange creditSpendsWrong)

/-- 'portagelaw17.CreditGrants': WHATEVER THE INPUT: true; the input reads as it did. -/
def creditGrantsSpec : ChangeSpec := { name := "creditGrants", fn := fun _ => fun
  | [d1, d2, d3] => { results := [.lit (.bool true)], args := [d1, d2, d3] }
  | _ => none }
def creditGrantsRow : OpenClaim := { program := "ytgmjminpgliilaa", sum := "e0b89e23f0f621cd44bd908fbef80e292c23aaad134859010085896e58ee996b", func := "portage/portagelaw17.CreditGrants", spec := "creditGrants", apart := false }
def CreditGrantsSaid : Prop := creditGrantsRow.holds Try.pinned (OpenSpec.ofChange creditGrantsSpec)

/-- ITS FALSE NEIGHBOUR: 'it returns false'. Refute it at one input. -/
def creditGrantsWrong : ChangeSpec := { name := "creditGrants", fn := fun _ => fun
  | [d1, d2, d3] => { results := [.lit (.bool false)], args := [d1, d2, d3] }
  | _ => none }
def CreditGrantsWrongFalsely : Prop := creditGrantsRow.holds Try.pinned (OpenSpec.ofChange creditGrantsWrong)

/-- 'portagelaw17.CreditFlows': WHATEVER THE INPUT: true; the input reads as it did. -/
def creditFlowsSpec : ChangeSpec := { name := "creditFlows", fn := fun _ => fun
  | [d1, d2] => { results := [.lit (.bool true)], args := [d1, d2] }
  | _ => none }
def creditFlowsRow : OpenClaim := { program := "ytgmjminpgliilaa", sum := "e0b89e23f0f621cd44bd908fbef80e292c23aaad134859010085896e58ee996b", func := "portage/portagelaw17.CreditFlows", spec := "creditFlows", apart := false }
def CreditFlowsSaid : Prop := creditFlowsRow.holds Try.pinned (OpenSpec.ofChange creditFlowsSpec)

/-- ITS FALSE NEIGHBOUR: 'it returns false'. Refute it at one input. -/
def creditFlowsWrong : ChangeSpec := { name := "creditFlows", fn := fun _ => fun
  | [d1, d2] => { results := [.lit (.bool false)], args := [d1, d2] }
  | _ => none }
def CreditFlowsWrongFalsely : Prop := creditFlowsRow.holds Try.pinned (OpenSpec.ofChange creditFlowsWrong)

/- THE SECOND FORM. 'bulk': how many values and letters a reading holds, each counted each time it is reached (what is shared counts as often as it is met; a slice's spare places count too). A statement '..UptoSaid' is the law's where the arguments, and the package variables that the reading takes, are together of bulk at most 1048576: NARROWER than '..Said'. Prove '..Said' where nothing that the law and all that it calls make is longer than what came in: it says more and counts as full. Else prove '..UptoSaid'. A law counts once. -/
mutual
def uptoBulk {H : Type} : DataW H → Nat
  | .lit (.string bytes) => bytes.length + 1
  | .lit _ => 1
  | .nil => 1
  | .ptr d => uptoBulk d + 1
  | .slice elems spare => uptoBulkAll elems + uptoBulkAll spare + 1
  | .agg parts => uptoBulkAll parts + 1
  | .iface _ d => uptoBulk d + 1
  | .map entries => uptoBulkEntries entries + 1
  | .held _ => 1
def uptoBulkAll {H : Type} : List (DataW H) → Nat
  | [] => 0
  | d :: r => uptoBulk d + uptoBulkAll r
def uptoBulkEntries {H : Type} : List (Lit × DataW H) → Nat
  | [] => 0
  | x :: r => uptoBulkEntry x + uptoBulkEntries r
def uptoBulkEntry {H : Type} : Lit × DataW H → Nat
  | (.string bytes, d) => bytes.length + uptoBulk d + 1
  | (_, d) => uptoBulk d + 1
 end
def uptoSmall : (H : Type) → List (DataW H) → Bool := fun _ ds => decide (uptoBulkAll ds ≤ 1048576)
def OpenSpec.upto (s : _root_.Go.ChangeSpec) : _root_.Go.OpenSpec := { _root_.Go.OpenSpec.ofChange s with cond := some uptoSmall }

/-- 'portagelaw17.CreditSpends', WHERE WHAT IT READS IS OF BULK AT MOST 1048576: true; the input reads as it did. -/
def creditSpendsUptoRow : OpenClaim := { program := "ytgmjminpgliilaa", sum := "e0b89e23f0f621cd44bd908fbef80e292c23aaad134859010085896e58ee996b", func := "portage/portagelaw17.CreditSpends", spec := "creditSpends", apart := false, narrowed := true }
def CreditSpendsUptoSaid : Prop := creditSpendsUptoRow.holds Try.pinned (OpenSpec.upto creditSpendsSpec)

/-- 'portagelaw17.CreditGrants', WHERE WHAT IT READS IS OF BULK AT MOST 1048576: true; the input reads as it did. -/
def creditGrantsUptoRow : OpenClaim := { program := "ytgmjminpgliilaa", sum := "e0b89e23f0f621cd44bd908fbef80e292c23aaad134859010085896e58ee996b", func := "portage/portagelaw17.CreditGrants", spec := "creditGrants", apart := false, narrowed := true }
def CreditGrantsUptoSaid : Prop := creditGrantsUptoRow.holds Try.pinned (OpenSpec.upto creditGrantsSpec)

/-- 'portagelaw17.CreditFlows', WHERE WHAT IT READS IS OF BULK AT MOST 1048576: true; the input reads as it did. -/
def creditFlowsUptoRow : OpenClaim := { program := "ytgmjminpgliilaa", sum := "e0b89e23f0f621cd44bd908fbef80e292c23aaad134859010085896e58ee996b", func := "portage/portagelaw17.CreditFlows", spec := "creditFlows", apart := false, narrowed := true }
def CreditFlowsUptoSaid : Prop := creditFlowsUptoRow.holds Try.pinned (OpenSpec.upto creditFlowsSpec)

end Rows
end Go.Proofs.Ytgmjminpgliilaa
