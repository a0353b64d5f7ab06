/-
  DERIVED. GIVEN WITH THE SEED: THE CARDS: each row of YtmfbbamaleagiaaDoorRows.lean that lists a variable, with what it lists TIED to the program's text (the seventh form; the later family's looks); each row that meets fmt, with fmt's text TOLD by the authors' own Lean function (tested against real Go, not proved from fmt's source: count such statements apart). THE CARD IS WHAT COUNTS. Prove the row's statement (the work); the ties are given (YtmfbbamaleagiaaDoorTie.lean); close each card by the builder's one call (the guide's Derived/Test/ToyasCard.lean, 'card_holds'). Laid BY PROGRAM, IN A SANDBOX (cutbox-door.mjs). By AI agents, Wed Nov 11 2026. No macro, syntax, notation, axiom, sorry.
-/
import Derived.Test.YtmfbbamaleagiaaDoorRows
import GoSem.ClaimSeven
namespace Go.Proofs.YtmfbbamaleagiaaDoor
namespace Rows

/-- THE TIED CARD OF 'portagelaw06.ParamsChecks'. -/
def paramsChecksCard : Claim7 := { stood := { row := paramsChecksRow, standIns := [], harness := (true, "737dfa37f7b2963a0200aa2f4ecb507bd860e183c8508a45e3ff2efe58bfccaa"), looks := false }, kinds := [], alts := [], laidByText := true, laidKinds := [.data], laidTests := true, laidLooks := .later }
def ParamsChecksCardSaid : Prop := Claim7.holds Tryd.pinned (.plain (OpenSpec.ofChange paramsChecksSpec)) paramsChecksCard

/-- THE TIED CARD OF 'portagelaw06.ParamsEncodes'. -/
def paramsEncodesCard : Claim7 := { stood := { row := paramsEncodesRow, standIns := [], harness := (true, "737dfa37f7b2963a0200aa2f4ecb507bd860e183c8508a45e3ff2efe58bfccaa"), looks := false }, kinds := [], alts := [], laidByText := true, laidKinds := [.data], laidTests := true, laidLooks := .later }
def ParamsEncodesCardSaid : Prop := Claim7.holds Tryd.pinned (.plain (OpenSpec.ofChange paramsEncodesSpec)) paramsEncodesCard

/-- THE TIED CARD OF 'portagelaw06.ParamsDecodes'. -/
def paramsDecodesCard : Claim7 := { stood := { row := paramsDecodesRow, standIns := [], harness := (true, "737dfa37f7b2963a0200aa2f4ecb507bd860e183c8508a45e3ff2efe58bfccaa"), looks := false }, kinds := [], alts := [], laidByText := true, laidKinds := [.data], laidTests := true, laidLooks := .later }
def ParamsDecodesCardSaid : Prop := Claim7.holds Tryd.pinned (.plain (OpenSpec.ofChange paramsDecodesSpec)) paramsDecodesCard

/-- THE TIED CARD OF 'portagelaw06.ParamsBack'. -/
def paramsBackCard : Claim7 := { stood := { row := paramsBackRow, standIns := [], harness := (true, "737dfa37f7b2963a0200aa2f4ecb507bd860e183c8508a45e3ff2efe58bfccaa"), looks := false }, kinds := [], alts := [], laidByText := true, laidKinds := [.data], laidTests := true, laidLooks := .later }
def ParamsBackCardSaid : Prop := Claim7.holds Tryd.pinned (.plain (OpenSpec.ofChange paramsBackSpec)) paramsBackCard

/-- THE TIED CARD OF 'portagelaw06.ParamsRead'. -/
def paramsReadCard : Claim7 := { stood := { row := paramsReadRow, standIns := [], harness := (true, "737dfa37f7b2963a0200aa2f4ecb507bd860e183c8508a45e3ff2efe58bfccaa"), looks := false }, kinds := [], alts := [], laidByText := true, laidKinds := [.data], laidTests := true, laidLooks := .later }
def ParamsReadCardSaid : Prop := Claim7.holds Tryd.pinned (.plain (OpenSpec.ofChange paramsReadSpec)) paramsReadCard

/-- THE TIED CARD OF 'portagelaw06.ParamsOrder'. -/
def paramsOrderCard : Claim7 := { stood := { row := paramsOrderRow, standIns := [], harness := (true, "737dfa37f7b2963a0200aa2f4ecb507bd860e183c8508a45e3ff2efe58bfccaa"), looks := false }, kinds := [], alts := [], laidByText := true, laidKinds := [.data], laidTests := true, laidLooks := .later }
def ParamsOrderCardSaid : Prop := Claim7.holds Tryd.pinned (.plain (OpenSpec.ofChange paramsOrderSpec)) paramsOrderCard

/-- THE SECOND FORM's CARD OF 'portagelaw06.ParamsChecks'. -/
def paramsChecksUptoCard : Claim7 := { stood := { row := paramsChecksUptoRow, standIns := [], harness := (true, "737dfa37f7b2963a0200aa2f4ecb507bd860e183c8508a45e3ff2efe58bfccaa"), looks := false }, kinds := [], alts := [], laidByText := true, laidKinds := [.data], laidTests := true, laidLooks := .later }
def ParamsChecksUptoCardSaid : Prop := Claim7.holds Tryd.pinned (.plain (OpenSpec.upto paramsChecksSpec)) paramsChecksUptoCard

/-- THE SECOND FORM's CARD OF 'portagelaw06.ParamsEncodes'. -/
def paramsEncodesUptoCard : Claim7 := { stood := { row := paramsEncodesUptoRow, standIns := [], harness := (true, "737dfa37f7b2963a0200aa2f4ecb507bd860e183c8508a45e3ff2efe58bfccaa"), looks := false }, kinds := [], alts := [], laidByText := true, laidKinds := [.data], laidTests := true, laidLooks := .later }
def ParamsEncodesUptoCardSaid : Prop := Claim7.holds Tryd.pinned (.plain (OpenSpec.upto paramsEncodesSpec)) paramsEncodesUptoCard

/-- THE SECOND FORM's CARD OF 'portagelaw06.ParamsDecodes'. -/
def paramsDecodesUptoCard : Claim7 := { stood := { row := paramsDecodesUptoRow, standIns := [], harness := (true, "737dfa37f7b2963a0200aa2f4ecb507bd860e183c8508a45e3ff2efe58bfccaa"), looks := false }, kinds := [], alts := [], laidByText := true, laidKinds := [.data], laidTests := true, laidLooks := .later }
def ParamsDecodesUptoCardSaid : Prop := Claim7.holds Tryd.pinned (.plain (OpenSpec.upto paramsDecodesSpec)) paramsDecodesUptoCard

/-- THE SECOND FORM's CARD OF 'portagelaw06.ParamsBack'. -/
def paramsBackUptoCard : Claim7 := { stood := { row := paramsBackUptoRow, standIns := [], harness := (true, "737dfa37f7b2963a0200aa2f4ecb507bd860e183c8508a45e3ff2efe58bfccaa"), looks := false }, kinds := [], alts := [], laidByText := true, laidKinds := [.data], laidTests := true, laidLooks := .later }
def ParamsBackUptoCardSaid : Prop := Claim7.holds Tryd.pinned (.plain (OpenSpec.upto paramsBackSpec)) paramsBackUptoCard

/-- THE SECOND FORM's CARD OF 'portagelaw06.ParamsRead'. -/
def paramsReadUptoCard : Claim7 := { stood := { row := paramsReadUptoRow, standIns := [], harness := (true, "737dfa37f7b2963a0200aa2f4ecb507bd860e183c8508a45e3ff2efe58bfccaa"), looks := false }, kinds := [], alts := [], laidByText := true, laidKinds := [.data], laidTests := true, laidLooks := .later }
def ParamsReadUptoCardSaid : Prop := Claim7.holds Tryd.pinned (.plain (OpenSpec.upto paramsReadSpec)) paramsReadUptoCard

/-- THE SECOND FORM's CARD OF 'portagelaw06.ParamsOrder'. -/
def paramsOrderUptoCard : Claim7 := { stood := { row := paramsOrderUptoRow, standIns := [], harness := (true, "737dfa37f7b2963a0200aa2f4ecb507bd860e183c8508a45e3ff2efe58bfccaa"), looks := false }, kinds := [], alts := [], laidByText := true, laidKinds := [.data], laidTests := true, laidLooks := .later }
def ParamsOrderUptoCardSaid : Prop := Claim7.holds Tryd.pinned (.plain (OpenSpec.upto paramsOrderSpec)) paramsOrderUptoCard
end Rows
end Go.Proofs.YtmfbbamaleagiaaDoor
