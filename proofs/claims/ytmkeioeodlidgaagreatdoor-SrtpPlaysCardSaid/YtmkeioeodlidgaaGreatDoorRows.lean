/-
  NARROWER THAN 'FOR EVERY INPUT', by the rows' own cells (each row's printed sentence says how): SrtpPlays: laid · SrtpBack: laid.
  DERIVED. THE GIVEN ROWS OF THIS SEAT. 2 by the template 'for every input the law returns true; each argument reads behind the call as it read before'; 0 by the template 'total and deterministic' (their statements: YtmkeioeodlidgaaGreatDoorTotals.lean).
  GIVEN WITH THE SEED: the statements are not yours to turn. If you find one false, say at which input.
  Laid BY PROGRAM, IN A SANDBOX (cutbox-rows.mjs): the forced cells as the released guide's own fill.sh prints them over the translation 909ec768eec7e236… (all of the seat's roots in one cut). By AI agents, Wed Nov 11 2026. No macro, syntax, notation, axiom, sorry.
-/
import Derived.Test.YtmkeioeodlidgaaGreatDoorChecked
import GoSem.Claim
import GoSem.ClaimJoined
import GoSem.ClaimMapViews
import Derived.JoinedTies
import Derived.KernelRfl
namespace Go.Proofs.YtmkeioeodlidgaaGreatDoor
/- THE CELL 'sum', in the pinned program and in every row, IS THE sha256 OF THE DUMP (.gsa) THAT YtmkeioeodlidgaaGreatDoorProg.lean LOADS. Nothing in Lean hashes anything: it is a label: what it is worth is what the hold of that sum in a sandbox is worth. -/
noncomputable def Tryz.pinned : Pinned := { name := "ytmkeioeodlidgaagreatdoor", sum := "909ec768eec7e2363468afeaf6662c354706cb05211bb64e24dad6d1eeb74784", checked := Tryz.checked }
namespace Rows
def none {H : Type} : Left H := { results := [], args := [] }

/- WHAT THE LISTED PACKAGE-LEVEL VARIABLES READ AS WHEN THE CALL BEGINS. Each datum BY PROGRAM (the guide's laid-datum.mjs) off the statement by which the dump's own 'gosem.cut.vars' lays the variable. In a bare row this is a premise. The card (YtmkeioeodlidgaaGreatDoorCards.lean) ties it to the program's text. -/
def laid_tenaille_sha_first {H : Type} : DataW H := .agg [.lit (.int .u32 1732584193), .lit (.int .u32 4023233417), .lit (.int .u32 2562383102), .lit (.int .u32 271733878), .lit (.int .u32 3285377520)]

/-- 'tenaillelaw15.SrtpPlays': WHATEVER THE INPUT: true; the input reads as it did. -/
def srtpPlaysSpec : ChangeSpec := { name := "srtpPlays", fn := fun _ => fun
  | [d1, d2, d3, d4] => { results := [.lit (.bool true)], args := [d1, d2, d3, d4] }
  | _ => none }
def srtpPlaysRow : OpenClaim := { program := "ytmkeioeodlidgaagreatdoor", sum := "909ec768eec7e2363468afeaf6662c354706cb05211bb64e24dad6d1eeb74784", func := "tenaille/tenaillelaw15.SrtpPlays", spec := "srtpPlays", unfollowed := true, recurses := true, named := ["tenaille/sha.first"], apart := false, laid := [("tenaille/sha.first", laid_tenaille_sha_first)] }
def SrtpPlaysSaid : Prop := srtpPlaysRow.holds Tryz.pinned (OpenSpec.ofChange srtpPlaysSpec)

/-- ITS FALSE NEIGHBOUR: 'it returns false'. Refute it at one input. -/
def srtpPlaysWrong : ChangeSpec := { name := "srtpPlays", fn := fun _ => fun
  | [d1, d2, d3, d4] => { results := [.lit (.bool false)], args := [d1, d2, d3, d4] }
  | _ => none }
def SrtpPlaysWrongFalsely : Prop := srtpPlaysRow.holds Tryz.pinned (OpenSpec.ofChange srtpPlaysWrong)

/-- 'tenaillelaw15.SrtpBack': WHATEVER THE INPUT: true; the input reads as it did. -/
def srtpBackSpec : ChangeSpec := { name := "srtpBack", fn := fun _ => fun
  | [d1, d2, d3, d4] => { results := [.lit (.bool true)], args := [d1, d2, d3, d4] }
  | _ => none }
def srtpBackRow : OpenClaim := { program := "ytmkeioeodlidgaagreatdoor", sum := "909ec768eec7e2363468afeaf6662c354706cb05211bb64e24dad6d1eeb74784", func := "tenaille/tenaillelaw15.SrtpBack", spec := "srtpBack", unfollowed := true, recurses := true, named := ["tenaille/sha.first"], apart := false, laid := [("tenaille/sha.first", laid_tenaille_sha_first)] }
def SrtpBackSaid : Prop := srtpBackRow.holds Tryz.pinned (OpenSpec.ofChange srtpBackSpec)

/-- ITS FALSE NEIGHBOUR: 'it returns false'. Refute it at one input. -/
def srtpBackWrong : ChangeSpec := { name := "srtpBack", fn := fun _ => fun
  | [d1, d2, d3, d4] => { results := [.lit (.bool false)], args := [d1, d2, d3, d4] }
  | _ => none }
def SrtpBackWrongFalsely : Prop := srtpBackRow.holds Tryz.pinned (OpenSpec.ofChange srtpBackWrong)

/- THE SECOND FORM. 'bulk': how many values and letters a reading holds, each counted each time it is reached (what is shared counts as often as it is met; a slice's spare places count too). A statement '..UptoSaid' is the law's where the arguments, and the package variables that the reading takes, are together of bulk at most 1048576: NARROWER than '..Said'. Prove '..Said' where nothing that the law and all that it calls make is longer than what came in: it says more and counts as full. Else prove '..UptoSaid'. A law counts once. -/
mutual
def uptoBulk {H : Type} : DataW H → Nat
  | .lit (.string bytes) => bytes.length + 1
  | .lit _ => 1
  | .nil => 1
  | .ptr d => uptoBulk d + 1
  | .slice elems spare => uptoBulkAll elems + uptoBulkAll spare + 1
  | .agg parts => uptoBulkAll parts + 1
  | .iface _ d => uptoBulk d + 1
  | .map entries => uptoBulkEntries entries + 1
  | .held _ => 1
def uptoBulkAll {H : Type} : List (DataW H) → Nat
  | [] => 0
  | d :: r => uptoBulk d + uptoBulkAll r
def uptoBulkEntries {H : Type} : List (Lit × DataW H) → Nat
  | [] => 0
  | x :: r => uptoBulkEntry x + uptoBulkEntries r
def uptoBulkEntry {H : Type} : Lit × DataW H → Nat
  | (.string bytes, d) => bytes.length + uptoBulk d + 1
  | (_, d) => uptoBulk d + 1
 end
def uptoSmall : (H : Type) → List (DataW H) → Bool := fun _ ds => decide (uptoBulkAll ds ≤ 1048576)
def OpenSpec.upto (s : _root_.Go.ChangeSpec) : _root_.Go.OpenSpec := { _root_.Go.OpenSpec.ofChange s with cond := some uptoSmall }

/-- 'tenaillelaw15.SrtpPlays', WHERE WHAT IT READS IS OF BULK AT MOST 1048576: true; the input reads as it did. -/
def srtpPlaysUptoRow : OpenClaim := { program := "ytmkeioeodlidgaagreatdoor", sum := "909ec768eec7e2363468afeaf6662c354706cb05211bb64e24dad6d1eeb74784", func := "tenaille/tenaillelaw15.SrtpPlays", spec := "srtpPlays", unfollowed := true, recurses := true, named := ["tenaille/sha.first"], apart := false, laid := [("tenaille/sha.first", laid_tenaille_sha_first)], narrowed := true }
def SrtpPlaysUptoSaid : Prop := srtpPlaysUptoRow.holds Tryz.pinned (OpenSpec.upto srtpPlaysSpec)

/-- 'tenaillelaw15.SrtpBack', WHERE WHAT IT READS IS OF BULK AT MOST 1048576: true; the input reads as it did. -/
def srtpBackUptoRow : OpenClaim := { program := "ytmkeioeodlidgaagreatdoor", sum := "909ec768eec7e2363468afeaf6662c354706cb05211bb64e24dad6d1eeb74784", func := "tenaille/tenaillelaw15.SrtpBack", spec := "srtpBack", unfollowed := true, recurses := true, named := ["tenaille/sha.first"], apart := false, laid := [("tenaille/sha.first", laid_tenaille_sha_first)], narrowed := true }
def SrtpBackUptoSaid : Prop := srtpBackUptoRow.holds Tryz.pinned (OpenSpec.upto srtpBackSpec)

end Rows
end Go.Proofs.YtmkeioeodlidgaaGreatDoor
