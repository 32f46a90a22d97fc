/-
  No cell of these rows narrows 'for every input' (looked for: loops, veiled, ifaces, maps, wideKeys, modest, calm, conditions, laid).
  DERIVED. THE GIVEN ROWS OF THIS SEAT. 4 by the template 'for every input the law returns true; each argument reads behind the call as it read before'; 0 by the template 'total and deterministic' (their statements: YtbghpgflfaheiaaTotals.lean).
  GIVEN WITH THE SEED: the statements are not yours to turn. If you find one false, say at which input.
  Laid BY PROGRAM, IN A SANDBOX (cutbox-rows.mjs): the forced cells as the released guide's own fill.sh prints them over the translation fe25b731a548097e… (all of the seat's roots in one cut). By AI agents, Wed Nov 11 2026. No macro, syntax, notation, axiom, sorry.
-/
import Derived.Test.YtbghpgflfaheiaaChecked
import GoSem.Claim
import GoSem.ClaimJoined
import GoSem.ClaimMapViews
import Derived.JoinedTies
import Derived.KernelRfl
namespace Go.Proofs.Ytbghpgflfaheiaa
/- THE CELL 'sum', in the pinned program and in every row, IS THE sha256 OF THE DUMP (.gsa) THAT YtbghpgflfaheiaaProg.lean LOADS. Nothing in Lean hashes anything: it is a label: what it is worth is what the hold of that sum in a sandbox is worth. -/
noncomputable def Try.pinned : Pinned := { name := "ytbghpgflfaheiaa", sum := "fe25b731a548097e61bcdbe92f90bc1e7eb09f578048d1455373943a2b7fce3f", checked := Try.checked }
namespace Rows
def none {H : Type} : Left H := { results := [], args := [] }

/-- 'tenaillelaw21.LadderPlays': WHATEVER THE INPUT: true; the input reads as it did. -/
def ladderPlaysSpec : ChangeSpec := { name := "ladderPlays", fn := fun _ => fun
  | [d1, d2, d3] => { results := [.lit (.bool true)], args := [d1, d2, d3] }
  | _ => none }
def ladderPlaysRow : OpenClaim := { program := "ytbghpgflfaheiaa", sum := "fe25b731a548097e61bcdbe92f90bc1e7eb09f578048d1455373943a2b7fce3f", func := "tenaille/tenaillelaw21.LadderPlays", spec := "ladderPlays", apart := false }
def LadderPlaysSaid : Prop := ladderPlaysRow.holds Try.pinned (OpenSpec.ofChange ladderPlaysSpec)

/-- ITS FALSE NEIGHBOUR: 'it returns false'. Refute it at one input. -/
def ladderPlaysWrong : ChangeSpec := { name := "ladderPlays", fn := fun _ => fun
  | [d1, d2, d3] => { results := [.lit (.bool false)], args := [d1, d2, d3] }
  | _ => none }
def LadderPlaysWrongFalsely : Prop := ladderPlaysRow.holds Try.pinned (OpenSpec.ofChange ladderPlaysWrong)

/-- 'tenaillelaw21.LadderGood': WHATEVER THE INPUT: true; the input reads as it did. -/
def ladderGoodSpec : ChangeSpec := { name := "ladderGood", fn := fun _ => fun
  | [d1, d2] => { results := [.lit (.bool true)], args := [d1, d2] }
  | _ => none }
def ladderGoodRow : OpenClaim := { program := "ytbghpgflfaheiaa", sum := "fe25b731a548097e61bcdbe92f90bc1e7eb09f578048d1455373943a2b7fce3f", func := "tenaille/tenaillelaw21.LadderGood", spec := "ladderGood", apart := false }
def LadderGoodSaid : Prop := ladderGoodRow.holds Try.pinned (OpenSpec.ofChange ladderGoodSpec)

/-- ITS FALSE NEIGHBOUR: 'it returns false'. Refute it at one input. -/
def ladderGoodWrong : ChangeSpec := { name := "ladderGood", fn := fun _ => fun
  | [d1, d2] => { results := [.lit (.bool false)], args := [d1, d2] }
  | _ => none }
def LadderGoodWrongFalsely : Prop := ladderGoodRow.holds Try.pinned (OpenSpec.ofChange ladderGoodWrong)

/-- 'tenaillelaw21.LadderDecays': WHATEVER THE INPUT: true; the input reads as it did. -/
def ladderDecaysSpec : ChangeSpec := { name := "ladderDecays", fn := fun _ => fun
  | [d1, d2, d3, d4, d5] => { results := [.lit (.bool true)], args := [d1, d2, d3, d4, d5] }
  | _ => none }
def ladderDecaysRow : OpenClaim := { program := "ytbghpgflfaheiaa", sum := "fe25b731a548097e61bcdbe92f90bc1e7eb09f578048d1455373943a2b7fce3f", func := "tenaille/tenaillelaw21.LadderDecays", spec := "ladderDecays", apart := false }
def LadderDecaysSaid : Prop := ladderDecaysRow.holds Try.pinned (OpenSpec.ofChange ladderDecaysSpec)

/-- ITS FALSE NEIGHBOUR: 'it returns false'. Refute it at one input. -/
def ladderDecaysWrong : ChangeSpec := { name := "ladderDecays", fn := fun _ => fun
  | [d1, d2, d3, d4, d5] => { results := [.lit (.bool false)], args := [d1, d2, d3, d4, d5] }
  | _ => none }
def LadderDecaysWrongFalsely : Prop := ladderDecaysRow.holds Try.pinned (OpenSpec.ofChange ladderDecaysWrong)

/-- 'tenaillelaw21.LadderNone': WHATEVER THE INPUT: true; the input reads as it did. -/
def ladderNoneSpec : ChangeSpec := { name := "ladderNone", fn := fun _ => fun
  | [d] => { results := [.lit (.bool true)], args := [d] }
  | _ => none }
def ladderNoneRow : OpenClaim := { program := "ytbghpgflfaheiaa", sum := "fe25b731a548097e61bcdbe92f90bc1e7eb09f578048d1455373943a2b7fce3f", func := "tenaille/tenaillelaw21.LadderNone", spec := "ladderNone", apart := false }
def LadderNoneSaid : Prop := ladderNoneRow.holds Try.pinned (OpenSpec.ofChange ladderNoneSpec)

/-- ITS FALSE NEIGHBOUR: 'it returns false'. Refute it at one input. -/
def ladderNoneWrong : ChangeSpec := { name := "ladderNone", fn := fun _ => fun
  | [d] => { results := [.lit (.bool false)], args := [d] }
  | _ => none }
def LadderNoneWrongFalsely : Prop := ladderNoneRow.holds Try.pinned (OpenSpec.ofChange ladderNoneWrong)

/- THE SECOND FORM. 'bulk': how many values and letters a reading holds, each counted each time it is reached (what is shared counts as often as it is met; a slice's spare places count too). A statement '..UptoSaid' is the law's where the arguments, and the package variables that the reading takes, are together of bulk at most 1048576: NARROWER than '..Said'. Prove '..Said' where nothing that the law and all that it calls make is longer than what came in: it says more and counts as full. Else prove '..UptoSaid'. A law counts once. -/
mutual
def uptoBulk {H : Type} : DataW H → Nat
  | .lit (.string bytes) => bytes.length + 1
  | .lit _ => 1
  | .nil => 1
  | .ptr d => uptoBulk d + 1
  | .slice elems spare => uptoBulkAll elems + uptoBulkAll spare + 1
  | .agg parts => uptoBulkAll parts + 1
  | .iface _ d => uptoBulk d + 1
  | .map entries => uptoBulkEntries entries + 1
  | .held _ => 1
def uptoBulkAll {H : Type} : List (DataW H) → Nat
  | [] => 0
  | d :: r => uptoBulk d + uptoBulkAll r
def uptoBulkEntries {H : Type} : List (Lit × DataW H) → Nat
  | [] => 0
  | x :: r => uptoBulkEntry x + uptoBulkEntries r
def uptoBulkEntry {H : Type} : Lit × DataW H → Nat
  | (.string bytes, d) => bytes.length + uptoBulk d + 1
  | (_, d) => uptoBulk d + 1
 end
def uptoSmall : (H : Type) → List (DataW H) → Bool := fun _ ds => decide (uptoBulkAll ds ≤ 1048576)
def OpenSpec.upto (s : _root_.Go.ChangeSpec) : _root_.Go.OpenSpec := { _root_.Go.OpenSpec.ofChange s with cond := some uptoSmall }

/-- 'tenaillelaw21.LadderPlays', WHERE WHAT IT READS IS OF BULK AT MOST 1048576: true; the input reads as it did. -/
def ladderPlaysUptoRow : OpenClaim := { program := "ytbghpgflfaheiaa", sum := "fe25b731a548097e61bcdbe92f90bc1e7eb09f578048d1455373943a2b7fce3f", func := "tenaille/tenaillelaw21.LadderPlays", spec := "ladderPlays", apart := false, narrowed := true }
def LadderPlaysUptoSaid : Prop := ladderPlaysUptoRow.holds Try.pinned (OpenSpec.upto ladderPlaysSpec)

/-- 'tenaillelaw21.LadderGood', WHERE WHAT IT READS IS OF BULK AT MOST 1048576: true; the input reads as it did. -/
def ladderGoodUptoRow : OpenClaim := { program := "ytbghpgflfaheiaa", sum := "fe25b731a548097e61bcdbe92f90bc1e7eb09f578048d1455373943a2b7fce3f", func := "tenaille/tenaillelaw21.LadderGood", spec := "ladderGood", apart := false, narrowed := true }
def LadderGoodUptoSaid : Prop := ladderGoodUptoRow.holds Try.pinned (OpenSpec.upto ladderGoodSpec)

/-- 'tenaillelaw21.LadderDecays', WHERE WHAT IT READS IS OF BULK AT MOST 1048576: true; the input reads as it did. -/
def ladderDecaysUptoRow : OpenClaim := { program := "ytbghpgflfaheiaa", sum := "fe25b731a548097e61bcdbe92f90bc1e7eb09f578048d1455373943a2b7fce3f", func := "tenaille/tenaillelaw21.LadderDecays", spec := "ladderDecays", apart := false, narrowed := true }
def LadderDecaysUptoSaid : Prop := ladderDecaysUptoRow.holds Try.pinned (OpenSpec.upto ladderDecaysSpec)

/-- 'tenaillelaw21.LadderNone', WHERE WHAT IT READS IS OF BULK AT MOST 1048576: true; the input reads as it did. -/
def ladderNoneUptoRow : OpenClaim := { program := "ytbghpgflfaheiaa", sum := "fe25b731a548097e61bcdbe92f90bc1e7eb09f578048d1455373943a2b7fce3f", func := "tenaille/tenaillelaw21.LadderNone", spec := "ladderNone", apart := false, narrowed := true }
def LadderNoneUptoSaid : Prop := ladderNoneUptoRow.holds Try.pinned (OpenSpec.upto ladderNoneSpec)

end Rows
end Go.Proofs.Ytbghpgflfaheiaa
