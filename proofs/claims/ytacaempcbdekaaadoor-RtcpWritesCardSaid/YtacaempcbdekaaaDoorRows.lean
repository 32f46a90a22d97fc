/-
  NARROWER THAN 'FOR EVERY INPUT', by the rows' own cells (each row's printed sentence says how): RtcpWrites: laid · RtcpNames: laid · RtcpLosses: laid.
  DERIVED. THE GIVEN ROWS OF THIS SEAT. 3 by the template 'for every input the law returns true; each argument reads behind the call as it read before'; 0 by the template 'total and deterministic' (their statements: YtacaempcbdekaaaDoorTotals.lean).
  GIVEN WITH THE SEED: the statements are not yours to turn. If you find one false, say at which input.
  Laid BY PROGRAM, IN A SANDBOX (cutbox-rows.mjs): the forced cells as the released guide's own fill.sh prints them over the translation 392ae69739f14dd3… (all of the seat's roots in one cut). By AI agents, Wed Nov 11 2026. No macro, syntax, notation, axiom, sorry.
-/
import Derived.Test.YtacaempcbdekaaaDoorChecked
import GoSem.Claim
import GoSem.ClaimJoined
import GoSem.ClaimMapViews
import Derived.JoinedTies
import Derived.KernelRfl
namespace Go.Proofs.YtacaempcbdekaaaDoor
/- THE CELL 'sum', in the pinned program and in every row, IS THE sha256 OF THE DUMP (.gsa) THAT YtacaempcbdekaaaDoorProg.lean LOADS. Nothing in Lean hashes anything: it is a label: what it is worth is what the hold of that sum in a sandbox is worth. -/
noncomputable def Tryd.pinned : Pinned := { name := "ytacaempcbdekaaadoor", sum := "392ae69739f14dd3c611874996fe72cb2d6a66d6f9791ba17949c0c24317dc9c", checked := Tryd.checked }
namespace Rows
def none {H : Type} : Left H := { results := [], args := [] }

/- WHAT THE LISTED PACKAGE-LEVEL VARIABLES READ AS WHEN THE CALL BEGINS. Each datum BY PROGRAM (the guide's laid-datum.mjs) off the statement by which the dump's own 'gosem.cut.vars' lays the variable. In a bare row this is a premise. The card (YtacaempcbdekaaaDoorCards.lean) ties it to the program's text. -/
def laid_tenaille_rtcp_feedbacks {H : Type} : DataW H := .agg [.agg [.lit (.int .i64 1), .lit (.int .i64 205), .lit (.int .i64 1)], .agg [.lit (.int .i64 2), .lit (.int .i64 206), .lit (.int .i64 1)], .agg [.lit (.int .i64 3), .lit (.int .i64 206), .lit (.int .i64 4)], .agg [.lit (.int .i64 4), .lit (.int .i64 206), .lit (.int .i64 15)]]

/-- 'tenaillelaw11.RtcpWrites': WHATEVER THE INPUT: true; the input reads as it did. -/
def rtcpWritesSpec : ChangeSpec := { name := "rtcpWrites", fn := fun _ => fun
  | [d] => { results := [.lit (.bool true)], args := [d] }
  | _ => none }
def rtcpWritesRow : OpenClaim := { program := "ytacaempcbdekaaadoor", sum := "392ae69739f14dd3c611874996fe72cb2d6a66d6f9791ba17949c0c24317dc9c", func := "tenaille/tenaillelaw11.RtcpWrites", spec := "rtcpWrites", unfollowed := true, recurses := true, named := ["tenaille/rtcp.feedbacks"], apart := false, laid := [("tenaille/rtcp.feedbacks", laid_tenaille_rtcp_feedbacks)] }
def RtcpWritesSaid : Prop := rtcpWritesRow.holds Tryd.pinned (OpenSpec.ofChange rtcpWritesSpec)

/-- ITS FALSE NEIGHBOUR: 'it returns false'. Refute it at one input. -/
def rtcpWritesWrong : ChangeSpec := { name := "rtcpWrites", fn := fun _ => fun
  | [d] => { results := [.lit (.bool false)], args := [d] }
  | _ => none }
def RtcpWritesWrongFalsely : Prop := rtcpWritesRow.holds Tryd.pinned (OpenSpec.ofChange rtcpWritesWrong)

/-- 'tenaillelaw11.RtcpNames': WHATEVER THE INPUT: true; the input reads as it did. -/
def rtcpNamesSpec : ChangeSpec := { name := "rtcpNames", fn := fun _ => fun
  | [d] => { results := [.lit (.bool true)], args := [d] }
  | _ => none }
def rtcpNamesRow : OpenClaim := { program := "ytacaempcbdekaaadoor", sum := "392ae69739f14dd3c611874996fe72cb2d6a66d6f9791ba17949c0c24317dc9c", func := "tenaille/tenaillelaw11.RtcpNames", spec := "rtcpNames", unfollowed := true, recurses := true, named := ["tenaille/rtcp.feedbacks"], apart := false, laid := [("tenaille/rtcp.feedbacks", laid_tenaille_rtcp_feedbacks)] }
def RtcpNamesSaid : Prop := rtcpNamesRow.holds Tryd.pinned (OpenSpec.ofChange rtcpNamesSpec)

/-- ITS FALSE NEIGHBOUR: 'it returns false'. Refute it at one input. -/
def rtcpNamesWrong : ChangeSpec := { name := "rtcpNames", fn := fun _ => fun
  | [d] => { results := [.lit (.bool false)], args := [d] }
  | _ => none }
def RtcpNamesWrongFalsely : Prop := rtcpNamesRow.holds Tryd.pinned (OpenSpec.ofChange rtcpNamesWrong)

/-- 'tenaillelaw11.RtcpLosses': WHATEVER THE INPUT: true; the input reads as it did. -/
def rtcpLossesSpec : ChangeSpec := { name := "rtcpLosses", fn := fun _ => fun
  | [d1, d2] => { results := [.lit (.bool true)], args := [d1, d2] }
  | _ => none }
def rtcpLossesRow : OpenClaim := { program := "ytacaempcbdekaaadoor", sum := "392ae69739f14dd3c611874996fe72cb2d6a66d6f9791ba17949c0c24317dc9c", func := "tenaille/tenaillelaw11.RtcpLosses", spec := "rtcpLosses", unfollowed := true, recurses := true, named := ["tenaille/rtcp.feedbacks"], apart := false, laid := [("tenaille/rtcp.feedbacks", laid_tenaille_rtcp_feedbacks)] }
def RtcpLossesSaid : Prop := rtcpLossesRow.holds Tryd.pinned (OpenSpec.ofChange rtcpLossesSpec)

/-- ITS FALSE NEIGHBOUR: 'it returns false'. Refute it at one input. -/
def rtcpLossesWrong : ChangeSpec := { name := "rtcpLosses", fn := fun _ => fun
  | [d1, d2] => { results := [.lit (.bool false)], args := [d1, d2] }
  | _ => none }
def RtcpLossesWrongFalsely : Prop := rtcpLossesRow.holds Tryd.pinned (OpenSpec.ofChange rtcpLossesWrong)

/- THE SECOND FORM. 'bulk': how many values and letters a reading holds, each counted each time it is reached (what is shared counts as often as it is met; a slice's spare places count too). A statement '..UptoSaid' is the law's where the arguments, and the package variables that the reading takes, are together of bulk at most 1048576: NARROWER than '..Said'. Prove '..Said' where nothing that the law and all that it calls make is longer than what came in: it says more and counts as full. Else prove '..UptoSaid'. A law counts once. -/
mutual
def uptoBulk {H : Type} : DataW H → Nat
  | .lit (.string bytes) => bytes.length + 1
  | .lit _ => 1
  | .nil => 1
  | .ptr d => uptoBulk d + 1
  | .slice elems spare => uptoBulkAll elems + uptoBulkAll spare + 1
  | .agg parts => uptoBulkAll parts + 1
  | .iface _ d => uptoBulk d + 1
  | .map entries => uptoBulkEntries entries + 1
  | .held _ => 1
def uptoBulkAll {H : Type} : List (DataW H) → Nat
  | [] => 0
  | d :: r => uptoBulk d + uptoBulkAll r
def uptoBulkEntries {H : Type} : List (Lit × DataW H) → Nat
  | [] => 0
  | x :: r => uptoBulkEntry x + uptoBulkEntries r
def uptoBulkEntry {H : Type} : Lit × DataW H → Nat
  | (.string bytes, d) => bytes.length + uptoBulk d + 1
  | (_, d) => uptoBulk d + 1
 end
def uptoSmall : (H : Type) → List (DataW H) → Bool := fun _ ds => decide (uptoBulkAll ds ≤ 1048576)
def OpenSpec.upto (s : _root_.Go.ChangeSpec) : _root_.Go.OpenSpec := { _root_.Go.OpenSpec.ofChange s with cond := some uptoSmall }

/-- 'tenaillelaw11.RtcpWrites', WHERE WHAT IT READS IS OF BULK AT MOST 1048576: true; the input reads as it did. -/
def rtcpWritesUptoRow : OpenClaim := { program := "ytacaempcbdekaaadoor", sum := "392ae69739f14dd3c611874996fe72cb2d6a66d6f9791ba17949c0c24317dc9c", func := "tenaille/tenaillelaw11.RtcpWrites", spec := "rtcpWrites", unfollowed := true, recurses := true, named := ["tenaille/rtcp.feedbacks"], apart := false, laid := [("tenaille/rtcp.feedbacks", laid_tenaille_rtcp_feedbacks)], narrowed := true }
def RtcpWritesUptoSaid : Prop := rtcpWritesUptoRow.holds Tryd.pinned (OpenSpec.upto rtcpWritesSpec)

/-- 'tenaillelaw11.RtcpNames', WHERE WHAT IT READS IS OF BULK AT MOST 1048576: true; the input reads as it did. -/
def rtcpNamesUptoRow : OpenClaim := { program := "ytacaempcbdekaaadoor", sum := "392ae69739f14dd3c611874996fe72cb2d6a66d6f9791ba17949c0c24317dc9c", func := "tenaille/tenaillelaw11.RtcpNames", spec := "rtcpNames", unfollowed := true, recurses := true, named := ["tenaille/rtcp.feedbacks"], apart := false, laid := [("tenaille/rtcp.feedbacks", laid_tenaille_rtcp_feedbacks)], narrowed := true }
def RtcpNamesUptoSaid : Prop := rtcpNamesUptoRow.holds Tryd.pinned (OpenSpec.upto rtcpNamesSpec)

/-- 'tenaillelaw11.RtcpLosses', WHERE WHAT IT READS IS OF BULK AT MOST 1048576: true; the input reads as it did. -/
def rtcpLossesUptoRow : OpenClaim := { program := "ytacaempcbdekaaadoor", sum := "392ae69739f14dd3c611874996fe72cb2d6a66d6f9791ba17949c0c24317dc9c", func := "tenaille/tenaillelaw11.RtcpLosses", spec := "rtcpLosses", unfollowed := true, recurses := true, named := ["tenaille/rtcp.feedbacks"], apart := false, laid := [("tenaille/rtcp.feedbacks", laid_tenaille_rtcp_feedbacks)], narrowed := true }
def RtcpLossesUptoSaid : Prop := rtcpLossesUptoRow.holds Tryd.pinned (OpenSpec.upto rtcpLossesSpec)

end Rows
end Go.Proofs.YtacaempcbdekaaaDoor
