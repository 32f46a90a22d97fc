/-
  DERIVED. GIVEN WITH THE SEED: THE CARDS: each row of YtacaempcbdekaaaDoorRows.lean that lists a variable, with what it lists TIED to the program's text (the seventh form; the later family's looks); each row that meets fmt, with fmt's text TOLD by the authors' own Lean function (tested against real Go, not proved from fmt's source: count such statements apart). THE CARD IS WHAT COUNTS. Prove the row's statement (the work); the ties are given (YtacaempcbdekaaaDoorTie.lean); close each card by the builder's one call (the guide's Derived/Test/ToyasCard.lean, 'card_holds'). Laid BY PROGRAM, IN A SANDBOX (cutbox-door.mjs). By AI agents, Wed Nov 11 2026. No macro, syntax, notation, axiom, sorry.
-/
import Derived.Test.YtacaempcbdekaaaDoorRows
import GoSem.ClaimSeven
namespace Go.Proofs.YtacaempcbdekaaaDoor
namespace Rows

/-- THE TIED CARD OF 'tenaillelaw11.RtcpWrites'. -/
def rtcpWritesCard : Claim7 := { stood := { row := rtcpWritesRow, standIns := [], harness := (true, "6384383222960a09c3f6787aad5ccc8581cc53a5b9b50cb64eb1b04af180e0e2"), looks := true }, kinds := [], alts := [], laidByText := true, laidKinds := [.data], laidTests := true, laidLooks := .later }
def RtcpWritesCardSaid : Prop := Claim7.holds Tryd.pinned (.plain (OpenSpec.ofChange rtcpWritesSpec)) rtcpWritesCard

/-- THE TIED CARD OF 'tenaillelaw11.RtcpNames'. -/
def rtcpNamesCard : Claim7 := { stood := { row := rtcpNamesRow, standIns := [], harness := (true, "6384383222960a09c3f6787aad5ccc8581cc53a5b9b50cb64eb1b04af180e0e2"), looks := true }, kinds := [], alts := [], laidByText := true, laidKinds := [.data], laidTests := true, laidLooks := .later }
def RtcpNamesCardSaid : Prop := Claim7.holds Tryd.pinned (.plain (OpenSpec.ofChange rtcpNamesSpec)) rtcpNamesCard

/-- THE TIED CARD OF 'tenaillelaw11.RtcpLosses'. -/
def rtcpLossesCard : Claim7 := { stood := { row := rtcpLossesRow, standIns := [], harness := (true, "6384383222960a09c3f6787aad5ccc8581cc53a5b9b50cb64eb1b04af180e0e2"), looks := true }, kinds := [], alts := [], laidByText := true, laidKinds := [.data], laidTests := true, laidLooks := .later }
def RtcpLossesCardSaid : Prop := Claim7.holds Tryd.pinned (.plain (OpenSpec.ofChange rtcpLossesSpec)) rtcpLossesCard

/-- THE SECOND FORM's CARD OF 'tenaillelaw11.RtcpWrites'. -/
def rtcpWritesUptoCard : Claim7 := { stood := { row := rtcpWritesUptoRow, standIns := [], harness := (true, "6384383222960a09c3f6787aad5ccc8581cc53a5b9b50cb64eb1b04af180e0e2"), looks := true }, kinds := [], alts := [], laidByText := true, laidKinds := [.data], laidTests := true, laidLooks := .later }
def RtcpWritesUptoCardSaid : Prop := Claim7.holds Tryd.pinned (.plain (OpenSpec.upto rtcpWritesSpec)) rtcpWritesUptoCard

/-- THE SECOND FORM's CARD OF 'tenaillelaw11.RtcpNames'. -/
def rtcpNamesUptoCard : Claim7 := { stood := { row := rtcpNamesUptoRow, standIns := [], harness := (true, "6384383222960a09c3f6787aad5ccc8581cc53a5b9b50cb64eb1b04af180e0e2"), looks := true }, kinds := [], alts := [], laidByText := true, laidKinds := [.data], laidTests := true, laidLooks := .later }
def RtcpNamesUptoCardSaid : Prop := Claim7.holds Tryd.pinned (.plain (OpenSpec.upto rtcpNamesSpec)) rtcpNamesUptoCard

/-- THE SECOND FORM's CARD OF 'tenaillelaw11.RtcpLosses'. -/
def rtcpLossesUptoCard : Claim7 := { stood := { row := rtcpLossesUptoRow, standIns := [], harness := (true, "6384383222960a09c3f6787aad5ccc8581cc53a5b9b50cb64eb1b04af180e0e2"), looks := true }, kinds := [], alts := [], laidByText := true, laidKinds := [.data], laidTests := true, laidLooks := .later }
def RtcpLossesUptoCardSaid : Prop := Claim7.holds Tryd.pinned (.plain (OpenSpec.upto rtcpLossesSpec)) rtcpLossesUptoCard
end Rows
end Go.Proofs.YtacaempcbdekaaaDoor
