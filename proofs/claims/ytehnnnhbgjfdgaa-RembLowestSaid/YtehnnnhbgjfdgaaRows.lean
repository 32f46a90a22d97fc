/-
  No cell of these rows narrows 'for every input' (looked for: loops, veiled, ifaces, maps, wideKeys, modest, calm, conditions, laid).
  DERIVED. THE GIVEN ROWS OF THIS SEAT. 3 by the template 'for every input the law returns true; each argument reads behind the call as it read before'; 0 by the template 'total and deterministic' (their statements: YtehnnnhbgjfdgaaTotals.lean).
  GIVEN WITH THE SEED: the statements are not yours to turn. If you find one false, say at which input.
  Laid BY PROGRAM, IN A SANDBOX (cutbox-rows.mjs): the forced cells as the released guide's own fill.sh prints them over the translation deea75eb76b353ac… (all of the seat's roots in one cut). By AI agents, Wed Nov 11 2026. No macro, syntax, notation, axiom, sorry.
-/
import Derived.Test.YtehnnnhbgjfdgaaChecked
import GoSem.Claim
import GoSem.ClaimJoined
import GoSem.ClaimMapViews
import Derived.JoinedTies
import Derived.KernelRfl
namespace Go.Proofs.Ytehnnnhbgjfdgaa
/- THE CELL 'sum', in the pinned program and in every row, IS THE sha256 OF THE DUMP (.gsa) THAT YtehnnnhbgjfdgaaProg.lean LOADS. Nothing in Lean hashes anything: it is a label: what it is worth is what the hold of that sum in a sandbox is worth. -/
noncomputable def Try.pinned : Pinned := { name := "ytehnnnhbgjfdgaa", sum := "deea75eb76b353ac3a6e0cd482391658d9d35cb988090cfbfec3bbc7ee948647", checked := Try.checked }
namespace Rows
def none {H : Type} : Left H := { results := [], args := [] }

/-- 'tenaillelaw25.RembShares': WHATEVER THE INPUT: true; the input reads as it did. -/
def rembSharesSpec : ChangeSpec := { name := "rembShares", fn := fun _ => fun
  | [d1, d2, d3] => { results := [.lit (.bool true)], args := [d1, d2, d3] }
  | _ => none }
def rembSharesRow : OpenClaim := { program := "ytehnnnhbgjfdgaa", sum := "deea75eb76b353ac3a6e0cd482391658d9d35cb988090cfbfec3bbc7ee948647", func := "tenaille/tenaillelaw25.RembShares", spec := "rembShares", unfollowed := true, recurses := true, apart := false }
def RembSharesSaid : Prop := rembSharesRow.holds Try.pinned (OpenSpec.ofChange rembSharesSpec)

/-- ITS FALSE NEIGHBOUR: 'it returns false'. Refute it at one input. -/
def rembSharesWrong : ChangeSpec := { name := "rembShares", fn := fun _ => fun
  | [d1, d2, d3] => { results := [.lit (.bool false)], args := [d1, d2, d3] }
  | _ => none }
def RembSharesWrongFalsely : Prop := rembSharesRow.holds Try.pinned (OpenSpec.ofChange rembSharesWrong)

/-- 'tenaillelaw25.RembFits': WHATEVER THE INPUT: true; the input reads as it did. -/
def rembFitsSpec : ChangeSpec := { name := "rembFits", fn := fun _ => fun
  | [d1, d2] => { results := [.lit (.bool true)], args := [d1, d2] }
  | _ => none }
def rembFitsRow : OpenClaim := { program := "ytehnnnhbgjfdgaa", sum := "deea75eb76b353ac3a6e0cd482391658d9d35cb988090cfbfec3bbc7ee948647", func := "tenaille/tenaillelaw25.RembFits", spec := "rembFits", unfollowed := true, recurses := true, apart := false }
def RembFitsSaid : Prop := rembFitsRow.holds Try.pinned (OpenSpec.ofChange rembFitsSpec)

/-- ITS FALSE NEIGHBOUR: 'it returns false'. Refute it at one input. -/
def rembFitsWrong : ChangeSpec := { name := "rembFits", fn := fun _ => fun
  | [d1, d2] => { results := [.lit (.bool false)], args := [d1, d2] }
  | _ => none }
def RembFitsWrongFalsely : Prop := rembFitsRow.holds Try.pinned (OpenSpec.ofChange rembFitsWrong)

/-- 'tenaillelaw25.RembLowest': WHATEVER THE INPUT: true; the input reads as it did. -/
def rembLowestSpec : ChangeSpec := { name := "rembLowest", fn := fun _ => fun
  | [d] => { results := [.lit (.bool true)], args := [d] }
  | _ => none }
def rembLowestRow : OpenClaim := { program := "ytehnnnhbgjfdgaa", sum := "deea75eb76b353ac3a6e0cd482391658d9d35cb988090cfbfec3bbc7ee948647", func := "tenaille/tenaillelaw25.RembLowest", spec := "rembLowest", unfollowed := true, recurses := true, apart := false }
def RembLowestSaid : Prop := rembLowestRow.holds Try.pinned (OpenSpec.ofChange rembLowestSpec)

/-- ITS FALSE NEIGHBOUR: 'it returns false'. Refute it at one input. -/
def rembLowestWrong : ChangeSpec := { name := "rembLowest", fn := fun _ => fun
  | [d] => { results := [.lit (.bool false)], args := [d] }
  | _ => none }
def RembLowestWrongFalsely : Prop := rembLowestRow.holds Try.pinned (OpenSpec.ofChange rembLowestWrong)

/- THE SECOND FORM. 'bulk': how many values and letters a reading holds, each counted each time it is reached (what is shared counts as often as it is met; a slice's spare places count too). A statement '..UptoSaid' is the law's where the arguments, and the package variables that the reading takes, are together of bulk at most 1048576: NARROWER than '..Said'. Prove '..Said' where nothing that the law and all that it calls make is longer than what came in: it says more and counts as full. Else prove '..UptoSaid'. A law counts once. -/
mutual
def uptoBulk {H : Type} : DataW H → Nat
  | .lit (.string bytes) => bytes.length + 1
  | .lit _ => 1
  | .nil => 1
  | .ptr d => uptoBulk d + 1
  | .slice elems spare => uptoBulkAll elems + uptoBulkAll spare + 1
  | .agg parts => uptoBulkAll parts + 1
  | .iface _ d => uptoBulk d + 1
  | .map entries => uptoBulkEntries entries + 1
  | .held _ => 1
def uptoBulkAll {H : Type} : List (DataW H) → Nat
  | [] => 0
  | d :: r => uptoBulk d + uptoBulkAll r
def uptoBulkEntries {H : Type} : List (Lit × DataW H) → Nat
  | [] => 0
  | x :: r => uptoBulkEntry x + uptoBulkEntries r
def uptoBulkEntry {H : Type} : Lit × DataW H → Nat
  | (.string bytes, d) => bytes.length + uptoBulk d + 1
  | (_, d) => uptoBulk d + 1
 end
def uptoSmall : (H : Type) → List (DataW H) → Bool := fun _ ds => decide (uptoBulkAll ds ≤ 1048576)
def OpenSpec.upto (s : _root_.Go.ChangeSpec) : _root_.Go.OpenSpec := { _root_.Go.OpenSpec.ofChange s with cond := some uptoSmall }

/-- 'tenaillelaw25.RembShares', WHERE WHAT IT READS IS OF BULK AT MOST 1048576: true; the input reads as it did. -/
def rembSharesUptoRow : OpenClaim := { program := "ytehnnnhbgjfdgaa", sum := "deea75eb76b353ac3a6e0cd482391658d9d35cb988090cfbfec3bbc7ee948647", func := "tenaille/tenaillelaw25.RembShares", spec := "rembShares", unfollowed := true, recurses := true, apart := false, narrowed := true }
def RembSharesUptoSaid : Prop := rembSharesUptoRow.holds Try.pinned (OpenSpec.upto rembSharesSpec)

/-- 'tenaillelaw25.RembFits', WHERE WHAT IT READS IS OF BULK AT MOST 1048576: true; the input reads as it did. -/
def rembFitsUptoRow : OpenClaim := { program := "ytehnnnhbgjfdgaa", sum := "deea75eb76b353ac3a6e0cd482391658d9d35cb988090cfbfec3bbc7ee948647", func := "tenaille/tenaillelaw25.RembFits", spec := "rembFits", unfollowed := true, recurses := true, apart := false, narrowed := true }
def RembFitsUptoSaid : Prop := rembFitsUptoRow.holds Try.pinned (OpenSpec.upto rembFitsSpec)

/-- 'tenaillelaw25.RembLowest', WHERE WHAT IT READS IS OF BULK AT MOST 1048576: true; the input reads as it did. -/
def rembLowestUptoRow : OpenClaim := { program := "ytehnnnhbgjfdgaa", sum := "deea75eb76b353ac3a6e0cd482391658d9d35cb988090cfbfec3bbc7ee948647", func := "tenaille/tenaillelaw25.RembLowest", spec := "rembLowest", unfollowed := true, recurses := true, apart := false, narrowed := true }
def RembLowestUptoSaid : Prop := rembLowestUptoRow.holds Try.pinned (OpenSpec.upto rembLowestSpec)

end Rows
end Go.Proofs.Ytehnnnhbgjfdgaa
