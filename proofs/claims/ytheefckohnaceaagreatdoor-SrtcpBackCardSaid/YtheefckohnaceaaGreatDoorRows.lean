/-
  NARROWER THAN 'FOR EVERY INPUT', by the rows' own cells (each row's printed sentence says how): SrtcpBack: laid · SrtcpKeys: laid.
  DERIVED. THE GIVEN ROWS OF THIS SEAT. 2 by the template 'for every input the law returns true; each argument reads behind the call as it read before'; 0 by the template 'total and deterministic' (their statements: YtheefckohnaceaaGreatDoorTotals.lean).
  GIVEN WITH THE SEED: the statements are not yours to turn. If you find one false, say at which input.
  Laid BY PROGRAM, IN A SANDBOX (cutbox-rows.mjs): the forced cells as the released guide's own fill.sh prints them over the translation dd8bb76fcf946359… (all of the seat's roots in one cut). By AI agents, Wed Nov 11 2026. No macro, syntax, notation, axiom, sorry.
-/
import Derived.Test.YtheefckohnaceaaGreatDoorChecked
import GoSem.Claim
import GoSem.ClaimJoined
import GoSem.ClaimMapViews
import Derived.JoinedTies
import Derived.KernelRfl
namespace Go.Proofs.YtheefckohnaceaaGreatDoor
/- THE CELL 'sum', in the pinned program and in every row, IS THE sha256 OF THE DUMP (.gsa) THAT YtheefckohnaceaaGreatDoorProg.lean LOADS. Nothing in Lean hashes anything: it is a label: what it is worth is what the hold of that sum in a sandbox is worth. -/
noncomputable def Tryz.pinned : Pinned := { name := "ytheefckohnaceaagreatdoor", sum := "dd8bb76fcf946359428f511abf71c26bc36e1c8570d64220f720b74c7eb26094", checked := Tryz.checked }
namespace Rows
def none {H : Type} : Left H := { results := [], args := [] }

/- WHAT THE LISTED PACKAGE-LEVEL VARIABLES READ AS WHEN THE CALL BEGINS. Each datum BY PROGRAM (the guide's laid-datum.mjs) off the statement by which the dump's own 'gosem.cut.vars' lays the variable. In a bare row this is a premise. The card (YtheefckohnaceaaGreatDoorCards.lean) ties it to the program's text. -/
def laid_tenaille_rtcp_feedbacks {H : Type} : DataW H := .agg [.agg [.lit (.int .i64 1), .lit (.int .i64 205), .lit (.int .i64 1)], .agg [.lit (.int .i64 2), .lit (.int .i64 206), .lit (.int .i64 1)], .agg [.lit (.int .i64 3), .lit (.int .i64 206), .lit (.int .i64 4)], .agg [.lit (.int .i64 4), .lit (.int .i64 206), .lit (.int .i64 15)]]
def laid_tenaille_sha_first {H : Type} : DataW H := .agg [.lit (.int .u32 1732584193), .lit (.int .u32 4023233417), .lit (.int .u32 2562383102), .lit (.int .u32 271733878), .lit (.int .u32 3285377520)]

/-- 'tenaillelaw16.SrtcpBack': WHATEVER THE INPUT: true; the input reads as it did. -/
def srtcpBackSpec : ChangeSpec := { name := "srtcpBack", fn := fun _ => fun
  | [d1, d2, d3, d4] => { results := [.lit (.bool true)], args := [d1, d2, d3, d4] }
  | _ => none }
def srtcpBackRow : OpenClaim := { program := "ytheefckohnaceaagreatdoor", sum := "dd8bb76fcf946359428f511abf71c26bc36e1c8570d64220f720b74c7eb26094", func := "tenaille/tenaillelaw16.SrtcpBack", spec := "srtcpBack", unfollowed := true, recurses := true, named := ["tenaille/rtcp.feedbacks", "tenaille/sha.first"], apart := false, laid := [("tenaille/rtcp.feedbacks", laid_tenaille_rtcp_feedbacks), ("tenaille/sha.first", laid_tenaille_sha_first)] }
def SrtcpBackSaid : Prop := srtcpBackRow.holds Tryz.pinned (OpenSpec.ofChange srtcpBackSpec)

/-- ITS FALSE NEIGHBOUR: 'it returns false'. Refute it at one input. -/
def srtcpBackWrong : ChangeSpec := { name := "srtcpBack", fn := fun _ => fun
  | [d1, d2, d3, d4] => { results := [.lit (.bool false)], args := [d1, d2, d3, d4] }
  | _ => none }
def SrtcpBackWrongFalsely : Prop := srtcpBackRow.holds Tryz.pinned (OpenSpec.ofChange srtcpBackWrong)

/-- 'tenaillelaw16.SrtcpKeys': WHATEVER THE INPUT: true; the input reads as it did. -/
def srtcpKeysSpec : ChangeSpec := { name := "srtcpKeys", fn := fun _ => fun
  | [d1, d2] => { results := [.lit (.bool true)], args := [d1, d2] }
  | _ => none }
def srtcpKeysRow : OpenClaim := { program := "ytheefckohnaceaagreatdoor", sum := "dd8bb76fcf946359428f511abf71c26bc36e1c8570d64220f720b74c7eb26094", func := "tenaille/tenaillelaw16.SrtcpKeys", spec := "srtcpKeys", unfollowed := true, recurses := true, named := ["tenaille/rtcp.feedbacks", "tenaille/sha.first"], apart := false, laid := [("tenaille/rtcp.feedbacks", laid_tenaille_rtcp_feedbacks), ("tenaille/sha.first", laid_tenaille_sha_first)] }
def SrtcpKeysSaid : Prop := srtcpKeysRow.holds Tryz.pinned (OpenSpec.ofChange srtcpKeysSpec)

/-- ITS FALSE NEIGHBOUR: 'it returns false'. Refute it at one input. -/
def srtcpKeysWrong : ChangeSpec := { name := "srtcpKeys", fn := fun _ => fun
  | [d1, d2] => { results := [.lit (.bool false)], args := [d1, d2] }
  | _ => none }
def SrtcpKeysWrongFalsely : Prop := srtcpKeysRow.holds Tryz.pinned (OpenSpec.ofChange srtcpKeysWrong)

/- THE SECOND FORM. 'bulk': how many values and letters a reading holds, each counted each time it is reached (what is shared counts as often as it is met; a slice's spare places count too). A statement '..UptoSaid' is the law's where the arguments, and the package variables that the reading takes, are together of bulk at most 1048576: NARROWER than '..Said'. Prove '..Said' where nothing that the law and all that it calls make is longer than what came in: it says more and counts as full. Else prove '..UptoSaid'. A law counts once. -/
mutual
def uptoBulk {H : Type} : DataW H → Nat
  | .lit (.string bytes) => bytes.length + 1
  | .lit _ => 1
  | .nil => 1
  | .ptr d => uptoBulk d + 1
  | .slice elems spare => uptoBulkAll elems + uptoBulkAll spare + 1
  | .agg parts => uptoBulkAll parts + 1
  | .iface _ d => uptoBulk d + 1
  | .map entries => uptoBulkEntries entries + 1
  | .held _ => 1
def uptoBulkAll {H : Type} : List (DataW H) → Nat
  | [] => 0
  | d :: r => uptoBulk d + uptoBulkAll r
def uptoBulkEntries {H : Type} : List (Lit × DataW H) → Nat
  | [] => 0
  | x :: r => uptoBulkEntry x + uptoBulkEntries r
def uptoBulkEntry {H : Type} : Lit × DataW H → Nat
  | (.string bytes, d) => bytes.length + uptoBulk d + 1
  | (_, d) => uptoBulk d + 1
 end
def uptoSmall : (H : Type) → List (DataW H) → Bool := fun _ ds => decide (uptoBulkAll ds ≤ 1048576)
def OpenSpec.upto (s : _root_.Go.ChangeSpec) : _root_.Go.OpenSpec := { _root_.Go.OpenSpec.ofChange s with cond := some uptoSmall }

/-- 'tenaillelaw16.SrtcpBack', WHERE WHAT IT READS IS OF BULK AT MOST 1048576: true; the input reads as it did. -/
def srtcpBackUptoRow : OpenClaim := { program := "ytheefckohnaceaagreatdoor", sum := "dd8bb76fcf946359428f511abf71c26bc36e1c8570d64220f720b74c7eb26094", func := "tenaille/tenaillelaw16.SrtcpBack", spec := "srtcpBack", unfollowed := true, recurses := true, named := ["tenaille/rtcp.feedbacks", "tenaille/sha.first"], apart := false, laid := [("tenaille/rtcp.feedbacks", laid_tenaille_rtcp_feedbacks), ("tenaille/sha.first", laid_tenaille_sha_first)], narrowed := true }
def SrtcpBackUptoSaid : Prop := srtcpBackUptoRow.holds Tryz.pinned (OpenSpec.upto srtcpBackSpec)

/-- 'tenaillelaw16.SrtcpKeys', WHERE WHAT IT READS IS OF BULK AT MOST 1048576: true; the input reads as it did. -/
def srtcpKeysUptoRow : OpenClaim := { program := "ytheefckohnaceaagreatdoor", sum := "dd8bb76fcf946359428f511abf71c26bc36e1c8570d64220f720b74c7eb26094", func := "tenaille/tenaillelaw16.SrtcpKeys", spec := "srtcpKeys", unfollowed := true, recurses := true, named := ["tenaille/rtcp.feedbacks", "tenaille/sha.first"], apart := false, laid := [("tenaille/rtcp.feedbacks", laid_tenaille_rtcp_feedbacks), ("tenaille/sha.first", laid_tenaille_sha_first)], narrowed := true }
def SrtcpKeysUptoSaid : Prop := srtcpKeysUptoRow.holds Tryz.pinned (OpenSpec.upto srtcpKeysSpec)

end Rows
end Go.Proofs.YtheefckohnaceaaGreatDoor
