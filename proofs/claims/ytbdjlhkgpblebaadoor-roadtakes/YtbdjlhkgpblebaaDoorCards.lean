/-
  DERIVED. GIVEN WITH THE SEED: THE CARDS: each row of YtbdjlhkgpblebaaDoorRows.lean that lists a variable, with what it lists TIED to the program's text (the seventh form; the later family's looks); each row that meets fmt, with fmt's text TOLD by the authors' own Lean function (tested against real Go, not proved from fmt's source: count such statements apart). THE CARD IS WHAT COUNTS. Prove the row's statement (the work); the ties are given (YtbdjlhkgpblebaaDoorTie.lean); close each card by the builder's one call (the guide's Derived/Test/ToyasCard.lean, 'card_holds'). Laid BY PROGRAM, IN A SANDBOX (cutbox-door.mjs). By AI agents, Wed Nov 11 2026. No macro, syntax, notation, axiom, sorry.
-/
import Derived.Test.YtbdjlhkgpblebaaDoorRows
import GoSem.ClaimSeven
namespace Go.Proofs.YtbdjlhkgpblebaaDoor
namespace Rows

/-- THE TIED CARD OF 'portagelaw22.RoadKeeps'. -/
def roadKeepsCard : Claim7 := { stood := { row := roadKeepsRow, standIns := [], harness := (true, "8eb8b1cd41470986febcd3b362e9f28bd6f96ec84cfb30cb4d83375154b68d76"), looks := false }, kinds := [], alts := [], laidByText := true, laidKinds := [.data], laidTests := true, laidLooks := .later }
def RoadKeepsCardSaid : Prop := Claim7.holds Tryd.pinned (.plain (OpenSpec.ofChange roadKeepsSpec)) roadKeepsCard

/-- THE TIED CARD OF 'portagelaw22.RoadTakes'. -/
def roadTakesCard : Claim7 := { stood := { row := roadTakesRow, standIns := [], harness := (true, "8eb8b1cd41470986febcd3b362e9f28bd6f96ec84cfb30cb4d83375154b68d76"), looks := false }, kinds := [], alts := [], laidByText := true, laidKinds := [.data], laidTests := true, laidLooks := .later }
def RoadTakesCardSaid : Prop := Claim7.holds Tryd.pinned (.plain (OpenSpec.ofChange roadTakesSpec)) roadTakesCard

/-- THE SECOND FORM's CARD OF 'portagelaw22.RoadKeeps'. -/
def roadKeepsUptoCard : Claim7 := { stood := { row := roadKeepsUptoRow, standIns := [], harness := (true, "8eb8b1cd41470986febcd3b362e9f28bd6f96ec84cfb30cb4d83375154b68d76"), looks := false }, kinds := [], alts := [], laidByText := true, laidKinds := [.data], laidTests := true, laidLooks := .later }
def RoadKeepsUptoCardSaid : Prop := Claim7.holds Tryd.pinned (.plain (OpenSpec.upto roadKeepsSpec)) roadKeepsUptoCard

/-- THE SECOND FORM's CARD OF 'portagelaw22.RoadTakes'. -/
def roadTakesUptoCard : Claim7 := { stood := { row := roadTakesUptoRow, standIns := [], harness := (true, "8eb8b1cd41470986febcd3b362e9f28bd6f96ec84cfb30cb4d83375154b68d76"), looks := false }, kinds := [], alts := [], laidByText := true, laidKinds := [.data], laidTests := true, laidLooks := .later }
def RoadTakesUptoCardSaid : Prop := Claim7.holds Tryd.pinned (.plain (OpenSpec.upto roadTakesSpec)) roadTakesUptoCard
end Rows
end Go.Proofs.YtbdjlhkgpblebaaDoor
