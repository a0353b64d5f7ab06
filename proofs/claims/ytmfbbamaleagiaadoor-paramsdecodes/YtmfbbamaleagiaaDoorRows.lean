/-
  NARROWER THAN 'FOR EVERY INPUT', by the rows' own cells (each row's printed sentence says how): ParamsChecks: laid · ParamsEncodes: laid · ParamsDecodes: laid · ParamsBack: laid · ParamsRead: laid · ParamsOrder: laid.
  DERIVED. THE GIVEN ROWS OF THIS SEAT. 6 by the template 'for every input the law returns true; each argument reads behind the call as it read before'; 0 by the template 'total and deterministic' (their statements: YtmfbbamaleagiaaDoorTotals.lean).
  GIVEN WITH THE SEED: the statements are not yours to turn. If you find one false, say at which input.
  Laid BY PROGRAM, IN A SANDBOX (cutbox-rows.mjs): the forced cells as the released guide's own fill.sh prints them over the translation d880ba858c3411b1… (all of the seat's roots in one cut). By AI agents, Wed Nov 11 2026. No macro, syntax, notation, axiom, sorry.
-/
import Derived.Test.YtmfbbamaleagiaaDoorChecked
import GoSem.Claim
import GoSem.ClaimJoined
import GoSem.ClaimMapViews
import Derived.JoinedTies
import Derived.KernelRfl
namespace Go.Proofs.YtmfbbamaleagiaaDoor
/- THE CELL 'sum', in the pinned program and in every row, IS THE sha256 OF THE DUMP (.gsa) THAT YtmfbbamaleagiaaDoorProg.lean LOADS. Nothing in Lean hashes anything: it is a label: what it is worth is what the hold of that sum in a sandbox is worth. -/
noncomputable def Tryd.pinned : Pinned := { name := "ytmfbbamaleagiaadoor", sum := "d880ba858c3411b1f2cfb174f5b2779b80349b35012a741586168f287a62b5a7", checked := Tryd.checked }
namespace Rows
def none {H : Type} : Left H := { results := [], args := [] }

/- WHAT THE LISTED PACKAGE-LEVEL VARIABLES READ AS WHEN THE CALL BEGINS. Each datum BY PROGRAM (the guide's laid-datum.mjs) off the statement by which the dump's own 'gosem.cut.vars' lays the variable. In a bare row this is a premise. The card (YtmfbbamaleagiaaDoorCards.lean) ties it to the program's text. -/
def laid_portage_params_table {H : Type} : DataW H := .agg [.agg [.lit (.int .u64 1), .lit (.int .i64 68719476736), .lit (.int .i64 0)], .agg [.lit (.int .u64 4), .lit (.int .i64 1048576), .lit (.int .i64 0)], .agg [.lit (.int .u64 5), .lit (.int .i64 1048576), .lit (.int .i64 0)], .agg [.lit (.int .u64 6), .lit (.int .i64 1048576), .lit (.int .i64 0)], .agg [.lit (.int .u64 7), .lit (.int .i64 1048576), .lit (.int .i64 0)], .agg [.lit (.int .u64 8), .lit (.int .i64 32), .lit (.int .i64 0)], .agg [.lit (.int .u64 9), .lit (.int .i64 32), .lit (.int .i64 0)], .agg [.lit (.int .u64 10), .lit (.int .i64 20), .lit (.int .i64 3)], .agg [.lit (.int .u64 11), .lit (.int .i64 16383000), .lit (.int .i64 25000)]]

/-- 'portagelaw06.ParamsChecks': WHATEVER THE INPUT: true; the input reads as it did. -/
def paramsChecksSpec : ChangeSpec := { name := "paramsChecks", fn := fun _ => fun
  | [d] => { results := [.lit (.bool true)], args := [d] }
  | _ => none }
def paramsChecksRow : OpenClaim := { program := "ytmfbbamaleagiaadoor", sum := "d880ba858c3411b1f2cfb174f5b2779b80349b35012a741586168f287a62b5a7", func := "portage/portagelaw06.ParamsChecks", spec := "paramsChecks", named := ["portage/params.table"], apart := false, laid := [("portage/params.table", laid_portage_params_table)] }
def ParamsChecksSaid : Prop := paramsChecksRow.holds Tryd.pinned (OpenSpec.ofChange paramsChecksSpec)

/-- ITS FALSE NEIGHBOUR: 'it returns false'. Refute it at one input. -/
def paramsChecksWrong : ChangeSpec := { name := "paramsChecks", fn := fun _ => fun
  | [d] => { results := [.lit (.bool false)], args := [d] }
  | _ => none }
def ParamsChecksWrongFalsely : Prop := paramsChecksRow.holds Tryd.pinned (OpenSpec.ofChange paramsChecksWrong)

/-- 'portagelaw06.ParamsEncodes': WHATEVER THE INPUT: true; the input reads as it did. -/
def paramsEncodesSpec : ChangeSpec := { name := "paramsEncodes", fn := fun _ => fun
  | [d] => { results := [.lit (.bool true)], args := [d] }
  | _ => none }
def paramsEncodesRow : OpenClaim := { program := "ytmfbbamaleagiaadoor", sum := "d880ba858c3411b1f2cfb174f5b2779b80349b35012a741586168f287a62b5a7", func := "portage/portagelaw06.ParamsEncodes", spec := "paramsEncodes", named := ["portage/params.table"], apart := false, laid := [("portage/params.table", laid_portage_params_table)] }
def ParamsEncodesSaid : Prop := paramsEncodesRow.holds Tryd.pinned (OpenSpec.ofChange paramsEncodesSpec)

/-- ITS FALSE NEIGHBOUR: 'it returns false'. Refute it at one input. -/
def paramsEncodesWrong : ChangeSpec := { name := "paramsEncodes", fn := fun _ => fun
  | [d] => { results := [.lit (.bool false)], args := [d] }
  | _ => none }
def ParamsEncodesWrongFalsely : Prop := paramsEncodesRow.holds Tryd.pinned (OpenSpec.ofChange paramsEncodesWrong)

/-- 'portagelaw06.ParamsDecodes': WHATEVER THE INPUT: true; the input reads as it did. -/
def paramsDecodesSpec : ChangeSpec := { name := "paramsDecodes", fn := fun _ => fun
  | [d] => { results := [.lit (.bool true)], args := [d] }
  | _ => none }
def paramsDecodesRow : OpenClaim := { program := "ytmfbbamaleagiaadoor", sum := "d880ba858c3411b1f2cfb174f5b2779b80349b35012a741586168f287a62b5a7", func := "portage/portagelaw06.ParamsDecodes", spec := "paramsDecodes", named := ["portage/params.table"], apart := false, laid := [("portage/params.table", laid_portage_params_table)] }
def ParamsDecodesSaid : Prop := paramsDecodesRow.holds Tryd.pinned (OpenSpec.ofChange paramsDecodesSpec)

/-- ITS FALSE NEIGHBOUR: 'it returns false'. Refute it at one input. -/
def paramsDecodesWrong : ChangeSpec := { name := "paramsDecodes", fn := fun _ => fun
  | [d] => { results := [.lit (.bool false)], args := [d] }
  | _ => none }
def ParamsDecodesWrongFalsely : Prop := paramsDecodesRow.holds Tryd.pinned (OpenSpec.ofChange paramsDecodesWrong)

/-- 'portagelaw06.ParamsBack': WHATEVER THE INPUT: true; the input reads as it did. -/
def paramsBackSpec : ChangeSpec := { name := "paramsBack", fn := fun _ => fun
  | [d] => { results := [.lit (.bool true)], args := [d] }
  | _ => none }
def paramsBackRow : OpenClaim := { program := "ytmfbbamaleagiaadoor", sum := "d880ba858c3411b1f2cfb174f5b2779b80349b35012a741586168f287a62b5a7", func := "portage/portagelaw06.ParamsBack", spec := "paramsBack", named := ["portage/params.table"], apart := false, laid := [("portage/params.table", laid_portage_params_table)] }
def ParamsBackSaid : Prop := paramsBackRow.holds Tryd.pinned (OpenSpec.ofChange paramsBackSpec)

/-- ITS FALSE NEIGHBOUR: 'it returns false'. Refute it at one input. -/
def paramsBackWrong : ChangeSpec := { name := "paramsBack", fn := fun _ => fun
  | [d] => { results := [.lit (.bool false)], args := [d] }
  | _ => none }
def ParamsBackWrongFalsely : Prop := paramsBackRow.holds Tryd.pinned (OpenSpec.ofChange paramsBackWrong)

/-- 'portagelaw06.ParamsRead': WHATEVER THE INPUT: true; the input reads as it did. -/
def paramsReadSpec : ChangeSpec := { name := "paramsRead", fn := fun _ => fun
  | [d] => { results := [.lit (.bool true)], args := [d] }
  | _ => none }
def paramsReadRow : OpenClaim := { program := "ytmfbbamaleagiaadoor", sum := "d880ba858c3411b1f2cfb174f5b2779b80349b35012a741586168f287a62b5a7", func := "portage/portagelaw06.ParamsRead", spec := "paramsRead", named := ["portage/params.table"], apart := false, laid := [("portage/params.table", laid_portage_params_table)] }
def ParamsReadSaid : Prop := paramsReadRow.holds Tryd.pinned (OpenSpec.ofChange paramsReadSpec)

/-- ITS FALSE NEIGHBOUR: 'it returns false'. Refute it at one input. -/
def paramsReadWrong : ChangeSpec := { name := "paramsRead", fn := fun _ => fun
  | [d] => { results := [.lit (.bool false)], args := [d] }
  | _ => none }
def ParamsReadWrongFalsely : Prop := paramsReadRow.holds Tryd.pinned (OpenSpec.ofChange paramsReadWrong)

/-- 'portagelaw06.ParamsOrder': WHATEVER THE INPUT: true; the input reads as it did. -/
def paramsOrderSpec : ChangeSpec := { name := "paramsOrder", fn := fun _ => fun
  | [d1, d2, d3, d4] => { results := [.lit (.bool true)], args := [d1, d2, d3, d4] }
  | _ => none }
def paramsOrderRow : OpenClaim := { program := "ytmfbbamaleagiaadoor", sum := "d880ba858c3411b1f2cfb174f5b2779b80349b35012a741586168f287a62b5a7", func := "portage/portagelaw06.ParamsOrder", spec := "paramsOrder", named := ["portage/params.table"], apart := false, laid := [("portage/params.table", laid_portage_params_table)] }
def ParamsOrderSaid : Prop := paramsOrderRow.holds Tryd.pinned (OpenSpec.ofChange paramsOrderSpec)

/-- ITS FALSE NEIGHBOUR: 'it returns false'. Refute it at one input. -/
def paramsOrderWrong : ChangeSpec := { name := "paramsOrder", fn := fun _ => fun
  | [d1, d2, d3, d4] => { results := [.lit (.bool false)], args := [d1, d2, d3, d4] }
  | _ => none }
def ParamsOrderWrongFalsely : Prop := paramsOrderRow.holds Tryd.pinned (OpenSpec.ofChange paramsOrderWrong)

/- THE SECOND FORM. 'bulk': how many values and letters a reading holds, each counted each time it is reached (what is shared counts as often as it is met; a slice's spare places count too). A statement '..UptoSaid' is the law's where the arguments, and the package variables that the reading takes, are together of bulk at most 1048576: NARROWER than '..Said'. Prove '..Said' where nothing that the law and all that it calls make is longer than what came in: it says more and counts as full. Else prove '..UptoSaid'. A law counts once. -/
mutual
def uptoBulk {H : Type} : DataW H → Nat
  | .lit (.string bytes) => bytes.length + 1
  | .lit _ => 1
  | .nil => 1
  | .ptr d => uptoBulk d + 1
  | .slice elems spare => uptoBulkAll elems + uptoBulkAll spare + 1
  | .agg parts => uptoBulkAll parts + 1
  | .iface _ d => uptoBulk d + 1
  | .map entries => uptoBulkEntries entries + 1
  | .held _ => 1
def uptoBulkAll {H : Type} : List (DataW H) → Nat
  | [] => 0
  | d :: r => uptoBulk d + uptoBulkAll r
def uptoBulkEntries {H : Type} : List (Lit × DataW H) → Nat
  | [] => 0
  | x :: r => uptoBulkEntry x + uptoBulkEntries r
def uptoBulkEntry {H : Type} : Lit × DataW H → Nat
  | (.string bytes, d) => bytes.length + uptoBulk d + 1
  | (_, d) => uptoBulk d + 1
 end
def uptoSmall : (H : Type) → List (DataW H) → Bool := fun _ ds => decide (uptoBulkAll ds ≤ 1048576)
def OpenSpec.upto (s : _root_.Go.ChangeSpec) : _root_.Go.OpenSpec := { _root_.Go.OpenSpec.ofChange s with cond := some uptoSmall }

/-- 'portagelaw06.ParamsChecks', WHERE WHAT IT READS IS OF BULK AT MOST 1048576: true; the input reads as it did. -/
def paramsChecksUptoRow : OpenClaim := { program := "ytmfbbamaleagiaadoor", sum := "d880ba858c3411b1f2cfb174f5b2779b80349b35012a741586168f287a62b5a7", func := "portage/portagelaw06.ParamsChecks", spec := "paramsChecks", named := ["portage/params.table"], apart := false, laid := [("portage/params.table", laid_portage_params_table)], narrowed := true }
def ParamsChecksUptoSaid : Prop := paramsChecksUptoRow.holds Tryd.pinned (OpenSpec.upto paramsChecksSpec)

/-- 'portagelaw06.ParamsEncodes', WHERE WHAT IT READS IS OF BULK AT MOST 1048576: true; the input reads as it did. -/
def paramsEncodesUptoRow : OpenClaim := { program := "ytmfbbamaleagiaadoor", sum := "d880ba858c3411b1f2cfb174f5b2779b80349b35012a741586168f287a62b5a7", func := "portage/portagelaw06.ParamsEncodes", spec := "paramsEncodes", named := ["portage/params.table"], apart := false, laid := [("portage/params.table", laid_portage_params_table)], narrowed := true }
def ParamsEncodesUptoSaid : Prop := paramsEncodesUptoRow.holds Tryd.pinned (OpenSpec.upto paramsEncodesSpec)

/-- 'portagelaw06.ParamsDecodes', WHERE WHAT IT READS IS OF BULK AT MOST 1048576: true; the input reads as it did. -/
def paramsDecodesUptoRow : OpenClaim := { program := "ytmfbbamaleagiaadoor", sum := "d880ba858c3411b1f2cfb174f5b2779b80349b35012a741586168f287a62b5a7", func := "portage/portagelaw06.ParamsDecodes", spec := "paramsDecodes", named := ["portage/params.table"], apart := false, laid := [("portage/params.table", laid_portage_params_table)], narrowed := true }
def ParamsDecodesUptoSaid : Prop := paramsDecodesUptoRow.holds Tryd.pinned (OpenSpec.upto paramsDecodesSpec)

/-- 'portagelaw06.ParamsBack', WHERE WHAT IT READS IS OF BULK AT MOST 1048576: true; the input reads as it did. -/
def paramsBackUptoRow : OpenClaim := { program := "ytmfbbamaleagiaadoor", sum := "d880ba858c3411b1f2cfb174f5b2779b80349b35012a741586168f287a62b5a7", func := "portage/portagelaw06.ParamsBack", spec := "paramsBack", named := ["portage/params.table"], apart := false, laid := [("portage/params.table", laid_portage_params_table)], narrowed := true }
def ParamsBackUptoSaid : Prop := paramsBackUptoRow.holds Tryd.pinned (OpenSpec.upto paramsBackSpec)

/-- 'portagelaw06.ParamsRead', WHERE WHAT IT READS IS OF BULK AT MOST 1048576: true; the input reads as it did. -/
def paramsReadUptoRow : OpenClaim := { program := "ytmfbbamaleagiaadoor", sum := "d880ba858c3411b1f2cfb174f5b2779b80349b35012a741586168f287a62b5a7", func := "portage/portagelaw06.ParamsRead", spec := "paramsRead", named := ["portage/params.table"], apart := false, laid := [("portage/params.table", laid_portage_params_table)], narrowed := true }
def ParamsReadUptoSaid : Prop := paramsReadUptoRow.holds Tryd.pinned (OpenSpec.upto paramsReadSpec)

/-- 'portagelaw06.ParamsOrder', WHERE WHAT IT READS IS OF BULK AT MOST 1048576: true; the input reads as it did. -/
def paramsOrderUptoRow : OpenClaim := { program := "ytmfbbamaleagiaadoor", sum := "d880ba858c3411b1f2cfb174f5b2779b80349b35012a741586168f287a62b5a7", func := "portage/portagelaw06.ParamsOrder", spec := "paramsOrder", named := ["portage/params.table"], apart := false, laid := [("portage/params.table", laid_portage_params_table)], narrowed := true }
def ParamsOrderUptoSaid : Prop := paramsOrderUptoRow.holds Tryd.pinned (OpenSpec.upto paramsOrderSpec)

end Rows
end Go.Proofs.YtmfbbamaleagiaaDoor
