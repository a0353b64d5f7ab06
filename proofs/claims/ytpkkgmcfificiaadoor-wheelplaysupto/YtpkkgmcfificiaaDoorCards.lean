/-
  DERIVED. GIVEN WITH THE SEED: THE CARDS: each row of YtpkkgmcfificiaaDoorRows.lean that lists a variable, with what it lists TIED to the program's text (the seventh form; the later family's looks); each row that meets fmt, with fmt's text TOLD by the authors' own Lean function (tested against real Go, not proved from fmt's source: count such statements apart). THE CARD IS WHAT COUNTS. Prove the row's statement (the work); the ties are given (YtpkkgmcfificiaaDoorTie.lean); close each card by the builder's one call (the guide's Derived/Test/ToyasCard.lean, 'card_holds'). Laid BY PROGRAM, IN A SANDBOX (cutbox-door.mjs). By AI agents, Wed Nov 11 2026. No macro, syntax, notation, axiom, sorry.
-/
import Derived.Test.YtpkkgmcfificiaaDoorRows
import GoSem.ClaimSeven
namespace Go.Proofs.YtpkkgmcfificiaaDoor
namespace Rows

/-- THE TIED CARD OF 'portagelaw07.WheelPlays'. -/
def wheelPlaysCard : Claim7 := { stood := { row := wheelPlaysRow, standIns := [], harness := (true, "8f2588945c3a585f5d31d3b1d79dfb7ce77b6891042275d02ceace6c929f887c"), looks := false }, kinds := [], alts := [], laidByText := true, laidKinds := [.data], laidTests := true, laidLooks := .later }
def WheelPlaysCardSaid : Prop := Claim7.holds Tryd.pinned (.plain (OpenSpec.ofChange wheelPlaysSpec)) wheelPlaysCard

/-- THE TIED CARD OF 'portagelaw07.WheelSplits'. -/
def wheelSplitsCard : Claim7 := { stood := { row := wheelSplitsRow, standIns := [], harness := (true, "8f2588945c3a585f5d31d3b1d79dfb7ce77b6891042275d02ceace6c929f887c"), looks := false }, kinds := [], alts := [], laidByText := true, laidKinds := [.data], laidTests := true, laidLooks := .later }
def WheelSplitsCardSaid : Prop := Claim7.holds Tryd.pinned (.plain (OpenSpec.ofChange wheelSplitsSpec)) wheelSplitsCard

/-- THE TIED CARD OF 'portagelaw07.WheelNext'. -/
def wheelNextCard : Claim7 := { stood := { row := wheelNextRow, standIns := [], harness := (true, "8f2588945c3a585f5d31d3b1d79dfb7ce77b6891042275d02ceace6c929f887c"), looks := false }, kinds := [], alts := [], laidByText := true, laidKinds := [.data], laidTests := true, laidLooks := .later }
def WheelNextCardSaid : Prop := Claim7.holds Tryd.pinned (.plain (OpenSpec.ofChange wheelNextSpec)) wheelNextCard

/-- THE TIED CARD OF 'portagelaw07.WheelRearms'. -/
def wheelRearmsCard : Claim7 := { stood := { row := wheelRearmsRow, standIns := [], harness := (true, "8f2588945c3a585f5d31d3b1d79dfb7ce77b6891042275d02ceace6c929f887c"), looks := false }, kinds := [], alts := [], laidByText := true, laidKinds := [.data], laidTests := true, laidLooks := .later }
def WheelRearmsCardSaid : Prop := Claim7.holds Tryd.pinned (.plain (OpenSpec.ofChange wheelRearmsSpec)) wheelRearmsCard

/-- THE SECOND FORM's CARD OF 'portagelaw07.WheelPlays'. -/
def wheelPlaysUptoCard : Claim7 := { stood := { row := wheelPlaysUptoRow, standIns := [], harness := (true, "8f2588945c3a585f5d31d3b1d79dfb7ce77b6891042275d02ceace6c929f887c"), looks := false }, kinds := [], alts := [], laidByText := true, laidKinds := [.data], laidTests := true, laidLooks := .later }
def WheelPlaysUptoCardSaid : Prop := Claim7.holds Tryd.pinned (.plain (OpenSpec.upto wheelPlaysSpec)) wheelPlaysUptoCard

/-- THE SECOND FORM's CARD OF 'portagelaw07.WheelSplits'. -/
def wheelSplitsUptoCard : Claim7 := { stood := { row := wheelSplitsUptoRow, standIns := [], harness := (true, "8f2588945c3a585f5d31d3b1d79dfb7ce77b6891042275d02ceace6c929f887c"), looks := false }, kinds := [], alts := [], laidByText := true, laidKinds := [.data], laidTests := true, laidLooks := .later }
def WheelSplitsUptoCardSaid : Prop := Claim7.holds Tryd.pinned (.plain (OpenSpec.upto wheelSplitsSpec)) wheelSplitsUptoCard

/-- THE SECOND FORM's CARD OF 'portagelaw07.WheelNext'. -/
def wheelNextUptoCard : Claim7 := { stood := { row := wheelNextUptoRow, standIns := [], harness := (true, "8f2588945c3a585f5d31d3b1d79dfb7ce77b6891042275d02ceace6c929f887c"), looks := false }, kinds := [], alts := [], laidByText := true, laidKinds := [.data], laidTests := true, laidLooks := .later }
def WheelNextUptoCardSaid : Prop := Claim7.holds Tryd.pinned (.plain (OpenSpec.upto wheelNextSpec)) wheelNextUptoCard

/-- THE SECOND FORM's CARD OF 'portagelaw07.WheelRearms'. -/
def wheelRearmsUptoCard : Claim7 := { stood := { row := wheelRearmsUptoRow, standIns := [], harness := (true, "8f2588945c3a585f5d31d3b1d79dfb7ce77b6891042275d02ceace6c929f887c"), looks := false }, kinds := [], alts := [], laidByText := true, laidKinds := [.data], laidTests := true, laidLooks := .later }
def WheelRearmsUptoCardSaid : Prop := Claim7.holds Tryd.pinned (.plain (OpenSpec.upto wheelRearmsSpec)) wheelRearmsUptoCard
end Rows
end Go.Proofs.YtpkkgmcfificiaaDoor
