/-
  No cell of these rows narrows 'for every input' (looked for: loops, veiled, ifaces, maps, wideKeys, modest, calm, conditions, laid).
  DERIVED. THE GIVEN ROWS OF THIS SEAT. 4 by the template 'for every input the law returns true; each argument reads behind the call as it read before'; 0 by the template 'total and deterministic' (their statements: YtkmacpmdgbhhkaaTotals.lean).
  GIVEN WITH THE SEED: the statements are not yours to turn. If you find one false, say at which input.
  Laid BY PROGRAM, IN A SANDBOX (cutbox-rows.mjs): the forced cells as the released guide's own fill.sh prints them over the translation 24e8f5b6c07885d9… (all of the seat's roots in one cut). By AI agents, Wed Nov 11 2026. No macro, syntax, notation, axiom, sorry.
-/
import Derived.Test.YtkmacpmdgbhhkaaChecked
import GoSem.Claim
import GoSem.ClaimJoined
import GoSem.ClaimMapViews
import Derived.JoinedTies
import Derived.KernelRfl
namespace Go.Proofs.Ytkmacpmdgbhhkaa
/- THE CELL 'sum', in the pinned program and in every row, IS THE sha256 OF THE DUMP (.gsa) THAT YtkmacpmdgbhhkaaProg.lean LOADS. Nothing in Lean hashes anything: it is a label: what it is worth is what the hold of that sum in a sandbox is worth. -/
noncomputable def Try.pinned : Pinned := { name := "ytkmacpmdgbhhkaa", sum := "24e8f5b6c07885d99d9515752a5b9f983841081588c6a1255ed54f6d9a389b9b", checked := Try.checked }
namespace Rows
def none {H : Type} : Left H := { results := [], args := [] }

/-- 'tenaillelaw20.LossesPlays': WHATEVER THE INPUT: true; the input reads as it did. -/
def lossesPlaysSpec : ChangeSpec := { name := "lossesPlays", fn := fun _ => fun
  | [d1, d2] => { results := [.lit (.bool true)], args := [d1, d2] }
  | _ => none }
def lossesPlaysRow : OpenClaim := { program := "ytkmacpmdgbhhkaa", sum := "24e8f5b6c07885d99d9515752a5b9f983841081588c6a1255ed54f6d9a389b9b", func := "tenaille/tenaillelaw20.LossesPlays", spec := "lossesPlays", unfollowed := true, recurses := true, apart := false }
def LossesPlaysSaid : Prop := lossesPlaysRow.holds Try.pinned (OpenSpec.ofChange lossesPlaysSpec)

/-- ITS FALSE NEIGHBOUR: 'it returns false'. Refute it at one input. -/
def lossesPlaysWrong : ChangeSpec := { name := "lossesPlays", fn := fun _ => fun
  | [d1, d2] => { results := [.lit (.bool false)], args := [d1, d2] }
  | _ => none }
def LossesPlaysWrongFalsely : Prop := lossesPlaysRow.holds Try.pinned (OpenSpec.ofChange lossesPlaysWrong)

/-- 'tenaillelaw20.LossesBound': WHATEVER THE INPUT: true; the input reads as it did. -/
def lossesBoundSpec : ChangeSpec := { name := "lossesBound", fn := fun _ => fun
  | [d1, d2] => { results := [.lit (.bool true)], args := [d1, d2] }
  | _ => none }
def lossesBoundRow : OpenClaim := { program := "ytkmacpmdgbhhkaa", sum := "24e8f5b6c07885d99d9515752a5b9f983841081588c6a1255ed54f6d9a389b9b", func := "tenaille/tenaillelaw20.LossesBound", spec := "lossesBound", unfollowed := true, recurses := true, apart := false }
def LossesBoundSaid : Prop := lossesBoundRow.holds Try.pinned (OpenSpec.ofChange lossesBoundSpec)

/-- ITS FALSE NEIGHBOUR: 'it returns false'. Refute it at one input. -/
def lossesBoundWrong : ChangeSpec := { name := "lossesBound", fn := fun _ => fun
  | [d1, d2] => { results := [.lit (.bool false)], args := [d1, d2] }
  | _ => none }
def LossesBoundWrongFalsely : Prop := lossesBoundRow.holds Try.pinned (OpenSpec.ofChange lossesBoundWrong)

/-- 'tenaillelaw20.LossesReports': WHATEVER THE INPUT: true; the input reads as it did. -/
def lossesReportsSpec : ChangeSpec := { name := "lossesReports", fn := fun _ => fun
  | [d1, d2, d3] => { results := [.lit (.bool true)], args := [d1, d2, d3] }
  | _ => none }
def lossesReportsRow : OpenClaim := { program := "ytkmacpmdgbhhkaa", sum := "24e8f5b6c07885d99d9515752a5b9f983841081588c6a1255ed54f6d9a389b9b", func := "tenaille/tenaillelaw20.LossesReports", spec := "lossesReports", unfollowed := true, recurses := true, named := ["math/bits.divideError", "math/bits.overflowError"], apart := false }
def LossesReportsSaid : Prop := lossesReportsRow.holds Try.pinned (OpenSpec.ofChange lossesReportsSpec)

/-- ITS FALSE NEIGHBOUR: 'it returns false'. Refute it at one input. -/
def lossesReportsWrong : ChangeSpec := { name := "lossesReports", fn := fun _ => fun
  | [d1, d2, d3] => { results := [.lit (.bool false)], args := [d1, d2, d3] }
  | _ => none }
def LossesReportsWrongFalsely : Prop := lossesReportsRow.holds Try.pinned (OpenSpec.ofChange lossesReportsWrong)

/-- 'tenaillelaw20.LossesNone': WHATEVER THE INPUT: true; the input reads as it did. -/
def lossesNoneSpec : ChangeSpec := { name := "lossesNone", fn := fun _ => fun
  | [d1, d2] => { results := [.lit (.bool true)], args := [d1, d2] }
  | _ => none }
def lossesNoneRow : OpenClaim := { program := "ytkmacpmdgbhhkaa", sum := "24e8f5b6c07885d99d9515752a5b9f983841081588c6a1255ed54f6d9a389b9b", func := "tenaille/tenaillelaw20.LossesNone", spec := "lossesNone", unfollowed := true, recurses := true, apart := false }
def LossesNoneSaid : Prop := lossesNoneRow.holds Try.pinned (OpenSpec.ofChange lossesNoneSpec)

/-- ITS FALSE NEIGHBOUR: 'it returns false'. Refute it at one input. -/
def lossesNoneWrong : ChangeSpec := { name := "lossesNone", fn := fun _ => fun
  | [d1, d2] => { results := [.lit (.bool false)], args := [d1, d2] }
  | _ => none }
def LossesNoneWrongFalsely : Prop := lossesNoneRow.holds Try.pinned (OpenSpec.ofChange lossesNoneWrong)

/- THE SECOND FORM. 'bulk': how many values and letters a reading holds, each counted each time it is reached (what is shared counts as often as it is met; a slice's spare places count too). A statement '..UptoSaid' is the law's where the arguments, and the package variables that the reading takes, are together of bulk at most 1048576: NARROWER than '..Said'. Prove '..Said' where nothing that the law and all that it calls make is longer than what came in: it says more and counts as full. Else prove '..UptoSaid'. A law counts once. -/
mutual
def uptoBulk {H : Type} : DataW H → Nat
  | .lit (.string bytes) => bytes.length + 1
  | .lit _ => 1
  | .nil => 1
  | .ptr d => uptoBulk d + 1
  | .slice elems spare => uptoBulkAll elems + uptoBulkAll spare + 1
  | .agg parts => uptoBulkAll parts + 1
  | .iface _ d => uptoBulk d + 1
  | .map entries => uptoBulkEntries entries + 1
  | .held _ => 1
def uptoBulkAll {H : Type} : List (DataW H) → Nat
  | [] => 0
  | d :: r => uptoBulk d + uptoBulkAll r
def uptoBulkEntries {H : Type} : List (Lit × DataW H) → Nat
  | [] => 0
  | x :: r => uptoBulkEntry x + uptoBulkEntries r
def uptoBulkEntry {H : Type} : Lit × DataW H → Nat
  | (.string bytes, d) => bytes.length + uptoBulk d + 1
  | (_, d) => uptoBulk d + 1
 end
def uptoSmall : (H : Type) → List (DataW H) → Bool := fun _ ds => decide (uptoBulkAll ds ≤ 1048576)
def OpenSpec.upto (s : _root_.Go.ChangeSpec) : _root_.Go.OpenSpec := { _root_.Go.OpenSpec.ofChange s with cond := some uptoSmall }

/-- 'tenaillelaw20.LossesPlays', WHERE WHAT IT READS IS OF BULK AT MOST 1048576: true; the input reads as it did. -/
def lossesPlaysUptoRow : OpenClaim := { program := "ytkmacpmdgbhhkaa", sum := "24e8f5b6c07885d99d9515752a5b9f983841081588c6a1255ed54f6d9a389b9b", func := "tenaille/tenaillelaw20.LossesPlays", spec := "lossesPlays", unfollowed := true, recurses := true, apart := false, narrowed := true }
def LossesPlaysUptoSaid : Prop := lossesPlaysUptoRow.holds Try.pinned (OpenSpec.upto lossesPlaysSpec)

/-- 'tenaillelaw20.LossesBound', WHERE WHAT IT READS IS OF BULK AT MOST 1048576: true; the input reads as it did. -/
def lossesBoundUptoRow : OpenClaim := { program := "ytkmacpmdgbhhkaa", sum := "24e8f5b6c07885d99d9515752a5b9f983841081588c6a1255ed54f6d9a389b9b", func := "tenaille/tenaillelaw20.LossesBound", spec := "lossesBound", unfollowed := true, recurses := true, apart := false, narrowed := true }
def LossesBoundUptoSaid : Prop := lossesBoundUptoRow.holds Try.pinned (OpenSpec.upto lossesBoundSpec)

/-- 'tenaillelaw20.LossesReports', WHERE WHAT IT READS IS OF BULK AT MOST 1048576: true; the input reads as it did. -/
def lossesReportsUptoRow : OpenClaim := { program := "ytkmacpmdgbhhkaa", sum := "24e8f5b6c07885d99d9515752a5b9f983841081588c6a1255ed54f6d9a389b9b", func := "tenaille/tenaillelaw20.LossesReports", spec := "lossesReports", unfollowed := true, recurses := true, named := ["math/bits.divideError", "math/bits.overflowError"], apart := false, narrowed := true }
def LossesReportsUptoSaid : Prop := lossesReportsUptoRow.holds Try.pinned (OpenSpec.upto lossesReportsSpec)

/-- 'tenaillelaw20.LossesNone', WHERE WHAT IT READS IS OF BULK AT MOST 1048576: true; the input reads as it did. -/
def lossesNoneUptoRow : OpenClaim := { program := "ytkmacpmdgbhhkaa", sum := "24e8f5b6c07885d99d9515752a5b9f983841081588c6a1255ed54f6d9a389b9b", func := "tenaille/tenaillelaw20.LossesNone", spec := "lossesNone", unfollowed := true, recurses := true, apart := false, narrowed := true }
def LossesNoneUptoSaid : Prop := lossesNoneUptoRow.holds Try.pinned (OpenSpec.upto lossesNoneSpec)

end Rows
end Go.Proofs.Ytkmacpmdgbhhkaa
