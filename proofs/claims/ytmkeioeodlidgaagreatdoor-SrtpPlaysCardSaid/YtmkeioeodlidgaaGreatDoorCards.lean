/-
  DERIVED. GIVEN WITH THE SEED: THE CARDS: each row of YtmkeioeodlidgaaGreatDoorRows.lean that lists a variable, with what it lists TIED to the program's text (the seventh form; the later family's looks); each row that meets fmt, with fmt's text TOLD by the authors' own Lean function (tested against real Go, not proved from fmt's source: count such statements apart). THE CARD IS WHAT COUNTS. Prove the row's statement (the work); the ties are given (YtmkeioeodlidgaaGreatDoorTie.lean); close each card by the builder's one call (the guide's Derived/Test/ToyasCard.lean, 'card_holds'). Laid BY PROGRAM, IN A SANDBOX (cutbox-door.mjs). By AI agents, Wed Nov 11 2026. No macro, syntax, notation, axiom, sorry.
-/
import Derived.Test.YtmkeioeodlidgaaGreatDoorRows
import GoSem.ClaimSeven
namespace Go.Proofs.YtmkeioeodlidgaaGreatDoor
namespace Rows

/-- THE TIED CARD OF 'tenaillelaw15.SrtpPlays'. -/
def srtpPlaysCard : Claim7 := { stood := { row := srtpPlaysRow, standIns := [], harness := (true, "e968e7e2d01653aa700b806d413939db5f47128f83b6b6865e8278099ec8f5be"), looks := true }, kinds := [], alts := [], laidByText := true, laidKinds := [.data], laidTests := true, laidLooks := .later }
def SrtpPlaysCardSaid : Prop := Claim7.holds Tryz.pinned (.plain (OpenSpec.ofChange srtpPlaysSpec)) srtpPlaysCard

/-- THE TIED CARD OF 'tenaillelaw15.SrtpBack'. -/
def srtpBackCard : Claim7 := { stood := { row := srtpBackRow, standIns := [], harness := (true, "e968e7e2d01653aa700b806d413939db5f47128f83b6b6865e8278099ec8f5be"), looks := true }, kinds := [], alts := [], laidByText := true, laidKinds := [.data], laidTests := true, laidLooks := .later }
def SrtpBackCardSaid : Prop := Claim7.holds Tryz.pinned (.plain (OpenSpec.ofChange srtpBackSpec)) srtpBackCard

/-- THE SECOND FORM's CARD OF 'tenaillelaw15.SrtpPlays'. -/
def srtpPlaysUptoCard : Claim7 := { stood := { row := srtpPlaysUptoRow, standIns := [], harness := (true, "e968e7e2d01653aa700b806d413939db5f47128f83b6b6865e8278099ec8f5be"), looks := true }, kinds := [], alts := [], laidByText := true, laidKinds := [.data], laidTests := true, laidLooks := .later }
def SrtpPlaysUptoCardSaid : Prop := Claim7.holds Tryz.pinned (.plain (OpenSpec.upto srtpPlaysSpec)) srtpPlaysUptoCard

/-- THE SECOND FORM's CARD OF 'tenaillelaw15.SrtpBack'. -/
def srtpBackUptoCard : Claim7 := { stood := { row := srtpBackUptoRow, standIns := [], harness := (true, "e968e7e2d01653aa700b806d413939db5f47128f83b6b6865e8278099ec8f5be"), looks := true }, kinds := [], alts := [], laidByText := true, laidKinds := [.data], laidTests := true, laidLooks := .later }
def SrtpBackUptoCardSaid : Prop := Claim7.holds Tryz.pinned (.plain (OpenSpec.upto srtpBackSpec)) srtpBackUptoCard
end Rows
end Go.Proofs.YtmkeioeodlidgaaGreatDoor
