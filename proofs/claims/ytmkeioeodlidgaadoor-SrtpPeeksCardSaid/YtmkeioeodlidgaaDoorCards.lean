/-
  DERIVED. GIVEN WITH THE SEED: THE CARDS: each row of YtmkeioeodlidgaaDoorRows.lean that lists a variable, with what it lists TIED to the program's text (the seventh form; the later family's looks); each row that meets fmt, with fmt's text TOLD by the authors' own Lean function (tested against real Go, not proved from fmt's source: count such statements apart). THE CARD IS WHAT COUNTS. Prove the row's statement (the work); the ties are given (YtmkeioeodlidgaaDoorTie.lean); close each card by the builder's one call (the guide's Derived/Test/ToyasCard.lean, 'card_holds'). Laid BY PROGRAM, IN A SANDBOX (cutbox-door.mjs). By AI agents, Wed Nov 11 2026. No macro, syntax, notation, axiom, sorry.
-/
import Derived.Test.YtmkeioeodlidgaaDoorRows
import GoSem.ClaimSeven
namespace Go.Proofs.YtmkeioeodlidgaaDoor
namespace Rows

/-- THE TIED CARD OF 'tenaillelaw15.SrtpPeeks'. -/
def srtpPeeksCard : Claim7 := { stood := { row := srtpPeeksRow, standIns := [], harness := (true, "61d6da638075d66b75a4e352218dfb64db49c9fa5417ec48a63189be45847d62"), looks := true }, kinds := [], alts := [], laidByText := true, laidKinds := [.data], laidTests := true, laidLooks := .later }
def SrtpPeeksCardSaid : Prop := Claim7.holds Tryd.pinned (.plain (OpenSpec.ofChange srtpPeeksSpec)) srtpPeeksCard

/-- THE SECOND FORM's CARD OF 'tenaillelaw15.SrtpPeeks'. -/
def srtpPeeksUptoCard : Claim7 := { stood := { row := srtpPeeksUptoRow, standIns := [], harness := (true, "61d6da638075d66b75a4e352218dfb64db49c9fa5417ec48a63189be45847d62"), looks := true }, kinds := [], alts := [], laidByText := true, laidKinds := [.data], laidTests := true, laidLooks := .later }
def SrtpPeeksUptoCardSaid : Prop := Claim7.holds Tryd.pinned (.plain (OpenSpec.upto srtpPeeksSpec)) srtpPeeksUptoCard
end Rows
end Go.Proofs.YtmkeioeodlidgaaDoor
