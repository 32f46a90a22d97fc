/-
  No cell of these rows narrows 'for every input' (looked for: loops, veiled, ifaces, maps, wideKeys, modest, calm, conditions, laid).
  DERIVED. THE GIVEN ROWS OF THIS SEAT. 3 by the template 'for every input the law returns true; each argument reads behind the call as it read before'; 0 by the template 'total and deterministic' (their statements: YtojfgckogofkdaaTotals.lean).
  GIVEN WITH THE SEED: the statements are not yours to turn. If you find one false, say at which input.
  Laid BY PROGRAM, IN A SANDBOX (cutbox-rows.mjs): the forced cells as the released guide's own fill.sh prints them over the translation 83acf8536b8d3f21… (all of the seat's roots in one cut). By AI agents, Wed Nov 11 2026. No macro, syntax, notation, axiom, sorry.
-/
import Derived.Test.YtojfgckogofkdaaChecked
import GoSem.Claim
import GoSem.ClaimJoined
import GoSem.ClaimMapViews
import Derived.JoinedTies
import Derived.KernelRfl
namespace Go.Proofs.Ytojfgckogofkdaa
/- THE CELL 'sum', in the pinned program and in every row, IS THE sha256 OF THE DUMP (.gsa) THAT YtojfgckogofkdaaProg.lean LOADS. Nothing in Lean hashes anything: it is a label: what it is worth is what the hold of that sum in a sandbox is worth. -/
noncomputable def Try.pinned : Pinned := { name := "ytojfgckogofkdaa", sum := "83acf8536b8d3f213f8eb00470fc44fd1bd6ca9cf925c60ae72443c1046e3d90", checked := Try.checked }
namespace Rows
def none {H : Type} : Left H := { results := [], args := [] }

/-- 'tenaillelaw02.SeqsAhead': WHATEVER THE INPUT: true; the input reads as it did. -/
def seqsAheadSpec : ChangeSpec := { name := "seqsAhead", fn := fun _ => fun
  | [d1, d2, d3, d4] => { results := [.lit (.bool true)], args := [d1, d2, d3, d4] }
  | _ => none }
def seqsAheadRow : OpenClaim := { program := "ytojfgckogofkdaa", sum := "83acf8536b8d3f213f8eb00470fc44fd1bd6ca9cf925c60ae72443c1046e3d90", func := "tenaille/tenaillelaw02.SeqsAhead", spec := "seqsAhead", apart := false }
def SeqsAheadSaid : Prop := seqsAheadRow.holds Try.pinned (OpenSpec.ofChange seqsAheadSpec)

/-- ITS FALSE NEIGHBOUR: 'it returns false'. Refute it at one input. -/
def seqsAheadWrong : ChangeSpec := { name := "seqsAhead", fn := fun _ => fun
  | [d1, d2, d3, d4] => { results := [.lit (.bool false)], args := [d1, d2, d3, d4] }
  | _ => none }
def SeqsAheadWrongFalsely : Prop := seqsAheadRow.holds Try.pinned (OpenSpec.ofChange seqsAheadWrong)

/-- 'tenaillelaw02.SeqsIndex': WHATEVER THE INPUT: true; the input reads as it did. -/
def seqsIndexSpec : ChangeSpec := { name := "seqsIndex", fn := fun _ => fun
  | [d1, d2] => { results := [.lit (.bool true)], args := [d1, d2] }
  | _ => none }
def seqsIndexRow : OpenClaim := { program := "ytojfgckogofkdaa", sum := "83acf8536b8d3f213f8eb00470fc44fd1bd6ca9cf925c60ae72443c1046e3d90", func := "tenaille/tenaillelaw02.SeqsIndex", spec := "seqsIndex", apart := false }
def SeqsIndexSaid : Prop := seqsIndexRow.holds Try.pinned (OpenSpec.ofChange seqsIndexSpec)

/-- ITS FALSE NEIGHBOUR: 'it returns false'. Refute it at one input. -/
def seqsIndexWrong : ChangeSpec := { name := "seqsIndex", fn := fun _ => fun
  | [d1, d2] => { results := [.lit (.bool false)], args := [d1, d2] }
  | _ => none }
def SeqsIndexWrongFalsely : Prop := seqsIndexRow.holds Try.pinned (OpenSpec.ofChange seqsIndexWrong)

/-- 'tenaillelaw02.SeqsBack': WHATEVER THE INPUT: true; the input reads as it did. -/
def seqsBackSpec : ChangeSpec := { name := "seqsBack", fn := fun _ => fun
  | [d1, d2] => { results := [.lit (.bool true)], args := [d1, d2] }
  | _ => none }
def seqsBackRow : OpenClaim := { program := "ytojfgckogofkdaa", sum := "83acf8536b8d3f213f8eb00470fc44fd1bd6ca9cf925c60ae72443c1046e3d90", func := "tenaille/tenaillelaw02.SeqsBack", spec := "seqsBack", apart := false }
def SeqsBackSaid : Prop := seqsBackRow.holds Try.pinned (OpenSpec.ofChange seqsBackSpec)

/-- ITS FALSE NEIGHBOUR: 'it returns false'. Refute it at one input. -/
def seqsBackWrong : ChangeSpec := { name := "seqsBack", fn := fun _ => fun
  | [d1, d2] => { results := [.lit (.bool false)], args := [d1, d2] }
  | _ => none }
def SeqsBackWrongFalsely : Prop := seqsBackRow.holds Try.pinned (OpenSpec.ofChange seqsBackWrong)

/- THE SECOND FORM. 'bulk': how many values and letters a reading holds, each counted each time it is reached (what is shared counts as often as it is met; a slice's spare places count too). A statement '..UptoSaid' is the law's where the arguments, and the package variables that the reading takes, are together of bulk at most 1048576: NARROWER than '..Said'. Prove '..Said' where nothing that the law and all that it calls make is longer than what came in: it says more and counts as full. Else prove '..UptoSaid'. A law counts once. -/
mutual
def uptoBulk {H : Type} : DataW H → Nat
  | .lit (.string bytes) => bytes.length + 1
  | .lit _ => 1
  | .nil => 1
  | .ptr d => uptoBulk d + 1
  | .slice elems spare => uptoBulkAll elems + uptoBulkAll spare + 1
  | .agg parts => uptoBulkAll parts + 1
  | .iface _ d => uptoBulk d + 1
  | .map entries => uptoBulkEntries entries + 1
  | .held _ => 1
def uptoBulkAll {H : Type} : List (DataW H) → Nat
  | [] => 0
  | d :: r => uptoBulk d + uptoBulkAll r
def uptoBulkEntries {H : Type} : List (Lit × DataW H) → Nat
  | [] => 0
  | x :: r => uptoBulkEntry x + uptoBulkEntries r
def uptoBulkEntry {H : Type} : Lit × DataW H → Nat
  | (.string bytes, d) => bytes.length + uptoBulk d + 1
  | (_, d) => uptoBulk d + 1
 end
def uptoSmall : (H : Type) → List (DataW H) → Bool := fun _ ds => decide (uptoBulkAll ds ≤ 1048576)
def OpenSpec.upto (s : _root_.Go.ChangeSpec) : _root_.Go.OpenSpec := { _root_.Go.OpenSpec.ofChange s with cond := some uptoSmall }

/-- 'tenaillelaw02.SeqsAhead', WHERE WHAT IT READS IS OF BULK AT MOST 1048576: true; the input reads as it did. -/
def seqsAheadUptoRow : OpenClaim := { program := "ytojfgckogofkdaa", sum := "83acf8536b8d3f213f8eb00470fc44fd1bd6ca9cf925c60ae72443c1046e3d90", func := "tenaille/tenaillelaw02.SeqsAhead", spec := "seqsAhead", apart := false, narrowed := true }
def SeqsAheadUptoSaid : Prop := seqsAheadUptoRow.holds Try.pinned (OpenSpec.upto seqsAheadSpec)

/-- 'tenaillelaw02.SeqsIndex', WHERE WHAT IT READS IS OF BULK AT MOST 1048576: true; the input reads as it did. -/
def seqsIndexUptoRow : OpenClaim := { program := "ytojfgckogofkdaa", sum := "83acf8536b8d3f213f8eb00470fc44fd1bd6ca9cf925c60ae72443c1046e3d90", func := "tenaille/tenaillelaw02.SeqsIndex", spec := "seqsIndex", apart := false, narrowed := true }
def SeqsIndexUptoSaid : Prop := seqsIndexUptoRow.holds Try.pinned (OpenSpec.upto seqsIndexSpec)

/-- 'tenaillelaw02.SeqsBack', WHERE WHAT IT READS IS OF BULK AT MOST 1048576: true; the input reads as it did. -/
def seqsBackUptoRow : OpenClaim := { program := "ytojfgckogofkdaa", sum := "83acf8536b8d3f213f8eb00470fc44fd1bd6ca9cf925c60ae72443c1046e3d90", func := "tenaille/tenaillelaw02.SeqsBack", spec := "seqsBack", apart := false, narrowed := true }
def SeqsBackUptoSaid : Prop := seqsBackUptoRow.holds Try.pinned (OpenSpec.upto seqsBackSpec)

end Rows
end Go.Proofs.Ytojfgckogofkdaa
