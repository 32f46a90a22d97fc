/-
  DERIVED. GIVEN WITH THE SEED: THE CARDS: each row of YtheefckohnaceaaGreatDoorRows.lean that lists a variable, with what it lists TIED to the program's text (the seventh form; the later family's looks); each row that meets fmt, with fmt's text TOLD by the authors' own Lean function (tested against real Go, not proved from fmt's source: count such statements apart). THE CARD IS WHAT COUNTS. Prove the row's statement (the work); the ties are given (YtheefckohnaceaaGreatDoorTie.lean); close each card by the builder's one call (the guide's Derived/Test/ToyasCard.lean, 'card_holds'). Laid BY PROGRAM, IN A SANDBOX (cutbox-door.mjs). By AI agents, Wed Nov 11 2026. No macro, syntax, notation, axiom, sorry.
-/
import Derived.Test.YtheefckohnaceaaGreatDoorRows
import GoSem.ClaimSeven
namespace Go.Proofs.YtheefckohnaceaaGreatDoor
namespace Rows

/-- THE TIED CARD OF 'tenaillelaw16.SrtcpBack'. -/
def srtcpBackCard : Claim7 := { stood := { row := srtcpBackRow, standIns := [], harness := (true, "59a65949252d5d9ff6de38e1a488dfe214c4b09c7cc463998d5ba9e4ff1ebc0b"), looks := true }, kinds := [], alts := [], laidByText := true, laidKinds := [.data, .data], laidTests := true, laidLooks := .later }
def SrtcpBackCardSaid : Prop := Claim7.holds Tryz.pinned (.plain (OpenSpec.ofChange srtcpBackSpec)) srtcpBackCard

/-- THE TIED CARD OF 'tenaillelaw16.SrtcpKeys'. -/
def srtcpKeysCard : Claim7 := { stood := { row := srtcpKeysRow, standIns := [], harness := (true, "59a65949252d5d9ff6de38e1a488dfe214c4b09c7cc463998d5ba9e4ff1ebc0b"), looks := true }, kinds := [], alts := [], laidByText := true, laidKinds := [.data, .data], laidTests := true, laidLooks := .later }
def SrtcpKeysCardSaid : Prop := Claim7.holds Tryz.pinned (.plain (OpenSpec.ofChange srtcpKeysSpec)) srtcpKeysCard

/-- THE SECOND FORM's CARD OF 'tenaillelaw16.SrtcpBack'. -/
def srtcpBackUptoCard : Claim7 := { stood := { row := srtcpBackUptoRow, standIns := [], harness := (true, "59a65949252d5d9ff6de38e1a488dfe214c4b09c7cc463998d5ba9e4ff1ebc0b"), looks := true }, kinds := [], alts := [], laidByText := true, laidKinds := [.data, .data], laidTests := true, laidLooks := .later }
def SrtcpBackUptoCardSaid : Prop := Claim7.holds Tryz.pinned (.plain (OpenSpec.upto srtcpBackSpec)) srtcpBackUptoCard

/-- THE SECOND FORM's CARD OF 'tenaillelaw16.SrtcpKeys'. -/
def srtcpKeysUptoCard : Claim7 := { stood := { row := srtcpKeysUptoRow, standIns := [], harness := (true, "59a65949252d5d9ff6de38e1a488dfe214c4b09c7cc463998d5ba9e4ff1ebc0b"), looks := true }, kinds := [], alts := [], laidByText := true, laidKinds := [.data, .data], laidTests := true, laidLooks := .later }
def SrtcpKeysUptoCardSaid : Prop := Claim7.holds Tryz.pinned (.plain (OpenSpec.upto srtcpKeysSpec)) srtcpKeysUptoCard
end Rows
end Go.Proofs.YtheefckohnaceaaGreatDoor
