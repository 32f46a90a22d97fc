/-
  No cell of these rows narrows 'for every input' (looked for: loops, veiled, ifaces, maps, wideKeys, modest, calm, conditions, laid).
  DERIVED. THE GIVEN ROWS OF THIS SEAT. 4 by the template 'for every input the law returns true; each argument reads behind the call as it read before'; 0 by the template 'total and deterministic' (their statements: YticbajagccemoaaTotals.lean).
  GIVEN WITH THE SEED: the statements are not yours to turn. If you find one false, say at which input.
  Laid BY PROGRAM, IN A SANDBOX (cutbox-rows.mjs): the forced cells as the released guide's own fill.sh prints them over the translation 6e9beca8b7ba5369… (all of the seat's roots in one cut). By AI agents, Wed Nov 11 2026. No macro, syntax, notation, axiom, sorry.
-/
import Derived.Test.YticbajagccemoaaChecked
import GoSem.Claim
import GoSem.ClaimJoined
import GoSem.ClaimMapViews
import Derived.JoinedTies
import Derived.KernelRfl
namespace Go.Proofs.Yticbajagccemoaa
/- THE CELL 'sum', in the pinned program and in every row, IS THE sha256 OF THE DUMP (.gsa) THAT YticbajagccemoaaProg.lean LOADS. Nothing in Lean hashes anything: it is a label: what it is worth is what the hold of that sum in a sandbox is worth. -/
noncomputable def Try.pinned : Pinned := { name := "yticbajagccemoaa", sum := "6e9beca8b7ba5369435034dadb5343953767dd8a79eb39e2f81eafb725a32869", checked := Try.checked }
namespace Rows
def none {H : Type} : Left H := { results := [], args := [] }

/-- 'tenaillelaw10.RtpReads': WHATEVER THE INPUT: true; the input reads as it did. -/
def rtpReadsSpec : ChangeSpec := { name := "rtpReads", fn := fun _ => fun
  | [d] => { results := [.lit (.bool true)], args := [d] }
  | _ => none }
def rtpReadsRow : OpenClaim := { program := "yticbajagccemoaa", sum := "6e9beca8b7ba5369435034dadb5343953767dd8a79eb39e2f81eafb725a32869", func := "tenaille/tenaillelaw10.RtpReads", spec := "rtpReads", unfollowed := true, recurses := true, apart := false }
def RtpReadsSaid : Prop := rtpReadsRow.holds Try.pinned (OpenSpec.ofChange rtpReadsSpec)

/-- ITS FALSE NEIGHBOUR: 'it returns false'. Refute it at one input. -/
def rtpReadsWrong : ChangeSpec := { name := "rtpReads", fn := fun _ => fun
  | [d] => { results := [.lit (.bool false)], args := [d] }
  | _ => none }
def RtpReadsWrongFalsely : Prop := rtpReadsRow.holds Try.pinned (OpenSpec.ofChange rtpReadsWrong)

/-- 'tenaillelaw10.RtpWrites': WHATEVER THE INPUT: true; the input reads as it did. -/
def rtpWritesSpec : ChangeSpec := { name := "rtpWrites", fn := fun _ => fun
  | [d] => { results := [.lit (.bool true)], args := [d] }
  | _ => none }
def rtpWritesRow : OpenClaim := { program := "yticbajagccemoaa", sum := "6e9beca8b7ba5369435034dadb5343953767dd8a79eb39e2f81eafb725a32869", func := "tenaille/tenaillelaw10.RtpWrites", spec := "rtpWrites", unfollowed := true, recurses := true, apart := false }
def RtpWritesSaid : Prop := rtpWritesRow.holds Try.pinned (OpenSpec.ofChange rtpWritesSpec)

/-- ITS FALSE NEIGHBOUR: 'it returns false'. Refute it at one input. -/
def rtpWritesWrong : ChangeSpec := { name := "rtpWrites", fn := fun _ => fun
  | [d] => { results := [.lit (.bool false)], args := [d] }
  | _ => none }
def RtpWritesWrongFalsely : Prop := rtpWritesRow.holds Try.pinned (OpenSpec.ofChange rtpWritesWrong)

/-- 'tenaillelaw10.RtpBack': WHATEVER THE INPUT: true; the input reads as it did. -/
def rtpBackSpec : ChangeSpec := { name := "rtpBack", fn := fun _ => fun
  | [d] => { results := [.lit (.bool true)], args := [d] }
  | _ => none }
def rtpBackRow : OpenClaim := { program := "yticbajagccemoaa", sum := "6e9beca8b7ba5369435034dadb5343953767dd8a79eb39e2f81eafb725a32869", func := "tenaille/tenaillelaw10.RtpBack", spec := "rtpBack", unfollowed := true, recurses := true, apart := false }
def RtpBackSaid : Prop := rtpBackRow.holds Try.pinned (OpenSpec.ofChange rtpBackSpec)

/-- ITS FALSE NEIGHBOUR: 'it returns false'. Refute it at one input. -/
def rtpBackWrong : ChangeSpec := { name := "rtpBack", fn := fun _ => fun
  | [d] => { results := [.lit (.bool false)], args := [d] }
  | _ => none }
def RtpBackWrongFalsely : Prop := rtpBackRow.holds Try.pinned (OpenSpec.ofChange rtpBackWrong)

/-- 'tenaillelaw10.RtpOwn': WHATEVER THE INPUT: true; the input reads as it did. -/
def rtpOwnSpec : ChangeSpec := { name := "rtpOwn", fn := fun _ => fun
  | [d] => { results := [.lit (.bool true)], args := [d] }
  | _ => none }
def rtpOwnRow : OpenClaim := { program := "yticbajagccemoaa", sum := "6e9beca8b7ba5369435034dadb5343953767dd8a79eb39e2f81eafb725a32869", func := "tenaille/tenaillelaw10.RtpOwn", spec := "rtpOwn", unfollowed := true, recurses := true, apart := false }
def RtpOwnSaid : Prop := rtpOwnRow.holds Try.pinned (OpenSpec.ofChange rtpOwnSpec)

/-- ITS FALSE NEIGHBOUR: 'it returns false'. Refute it at one input. -/
def rtpOwnWrong : ChangeSpec := { name := "rtpOwn", fn := fun _ => fun
  | [d] => { results := [.lit (.bool false)], args := [d] }
  | _ => none }
def RtpOwnWrongFalsely : Prop := rtpOwnRow.holds Try.pinned (OpenSpec.ofChange rtpOwnWrong)

/- THE SECOND FORM. 'bulk': how many values and letters a reading holds, each counted each time it is reached (what is shared counts as often as it is met; a slice's spare places count too). A statement '..UptoSaid' is the law's where the arguments, and the package variables that the reading takes, are together of bulk at most 1048576: NARROWER than '..Said'. Prove '..Said' where nothing that the law and all that it calls make is longer than what came in: it says more and counts as full. Else prove '..UptoSaid'. A law counts once. -/
mutual
def uptoBulk {H : Type} : DataW H → Nat
  | .lit (.string bytes) => bytes.length + 1
  | .lit _ => 1
  | .nil => 1
  | .ptr d => uptoBulk d + 1
  | .slice elems spare => uptoBulkAll elems + uptoBulkAll spare + 1
  | .agg parts => uptoBulkAll parts + 1
  | .iface _ d => uptoBulk d + 1
  | .map entries => uptoBulkEntries entries + 1
  | .held _ => 1
def uptoBulkAll {H : Type} : List (DataW H) → Nat
  | [] => 0
  | d :: r => uptoBulk d + uptoBulkAll r
def uptoBulkEntries {H : Type} : List (Lit × DataW H) → Nat
  | [] => 0
  | x :: r => uptoBulkEntry x + uptoBulkEntries r
def uptoBulkEntry {H : Type} : Lit × DataW H → Nat
  | (.string bytes, d) => bytes.length + uptoBulk d + 1
  | (_, d) => uptoBulk d + 1
 end
def uptoSmall : (H : Type) → List (DataW H) → Bool := fun _ ds => decide (uptoBulkAll ds ≤ 1048576)
def OpenSpec.upto (s : _root_.Go.ChangeSpec) : _root_.Go.OpenSpec := { _root_.Go.OpenSpec.ofChange s with cond := some uptoSmall }

/-- 'tenaillelaw10.RtpReads', WHERE WHAT IT READS IS OF BULK AT MOST 1048576: true; the input reads as it did. -/
def rtpReadsUptoRow : OpenClaim := { program := "yticbajagccemoaa", sum := "6e9beca8b7ba5369435034dadb5343953767dd8a79eb39e2f81eafb725a32869", func := "tenaille/tenaillelaw10.RtpReads", spec := "rtpReads", unfollowed := true, recurses := true, apart := false, narrowed := true }
def RtpReadsUptoSaid : Prop := rtpReadsUptoRow.holds Try.pinned (OpenSpec.upto rtpReadsSpec)

/-- 'tenaillelaw10.RtpWrites', WHERE WHAT IT READS IS OF BULK AT MOST 1048576: true; the input reads as it did. -/
def rtpWritesUptoRow : OpenClaim := { program := "yticbajagccemoaa", sum := "6e9beca8b7ba5369435034dadb5343953767dd8a79eb39e2f81eafb725a32869", func := "tenaille/tenaillelaw10.RtpWrites", spec := "rtpWrites", unfollowed := true, recurses := true, apart := false, narrowed := true }
def RtpWritesUptoSaid : Prop := rtpWritesUptoRow.holds Try.pinned (OpenSpec.upto rtpWritesSpec)

/-- 'tenaillelaw10.RtpBack', WHERE WHAT IT READS IS OF BULK AT MOST 1048576: true; the input reads as it did. -/
def rtpBackUptoRow : OpenClaim := { program := "yticbajagccemoaa", sum := "6e9beca8b7ba5369435034dadb5343953767dd8a79eb39e2f81eafb725a32869", func := "tenaille/tenaillelaw10.RtpBack", spec := "rtpBack", unfollowed := true, recurses := true, apart := false, narrowed := true }
def RtpBackUptoSaid : Prop := rtpBackUptoRow.holds Try.pinned (OpenSpec.upto rtpBackSpec)

/-- 'tenaillelaw10.RtpOwn', WHERE WHAT IT READS IS OF BULK AT MOST 1048576: true; the input reads as it did. -/
def rtpOwnUptoRow : OpenClaim := { program := "yticbajagccemoaa", sum := "6e9beca8b7ba5369435034dadb5343953767dd8a79eb39e2f81eafb725a32869", func := "tenaille/tenaillelaw10.RtpOwn", spec := "rtpOwn", unfollowed := true, recurses := true, apart := false, narrowed := true }
def RtpOwnUptoSaid : Prop := rtpOwnUptoRow.holds Try.pinned (OpenSpec.upto rtpOwnSpec)

end Rows
end Go.Proofs.Yticbajagccemoaa
