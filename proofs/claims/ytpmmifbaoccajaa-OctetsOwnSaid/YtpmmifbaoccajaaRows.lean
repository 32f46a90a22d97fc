/-
  No cell of these rows narrows 'for every input' (looked for: loops, veiled, ifaces, maps, wideKeys, modest, calm, conditions, laid).
  DERIVED. THE GIVEN ROWS OF THIS SEAT. 3 by the template 'for every input the law returns true; each argument reads behind the call as it read before'; 0 by the template 'total and deterministic' (their statements: YtpmmifbaoccajaaTotals.lean).
  GIVEN WITH THE SEED: the statements are not yours to turn. If you find one false, say at which input.
  Laid BY PROGRAM, IN A SANDBOX (cutbox-rows.mjs): the forced cells as the released guide's own fill.sh prints them over the translation f89777f4c876b9cb… (all of the seat's roots in one cut). By AI agents, Wed Nov 11 2026. No macro, syntax, notation, axiom, sorry.
-/
import Derived.Test.YtpmmifbaoccajaaChecked
import GoSem.Claim
import GoSem.ClaimJoined
import GoSem.ClaimMapViews
import Derived.JoinedTies
import Derived.KernelRfl
namespace Go.Proofs.Ytpmmifbaoccajaa
/- THE CELL 'sum', in the pinned program and in every row, IS THE sha256 OF THE DUMP (.gsa) THAT YtpmmifbaoccajaaProg.lean LOADS. Nothing in Lean hashes anything: it is a label: what it is worth is what the hold of that sum in a sandbox is worth. -/
noncomputable def Try.pinned : Pinned := { name := "ytpmmifbaoccajaa", sum := "f89777f4c876b9cb446c730c62c734a5ca0c33fd5e03f79b9797d1a221ab74ec", checked := Try.checked }
namespace Rows
def none {H : Type} : Left H := { results := [], args := [] }

/-- 'tenaillelaw01.OctetsNums': WHATEVER THE INPUT: true; the input reads as it did. -/
def octetsNumsSpec : ChangeSpec := { name := "octetsNums", fn := fun _ => fun
  | [d1, d2, d3, d4] => { results := [.lit (.bool true)], args := [d1, d2, d3, d4] }
  | _ => none }
def octetsNumsRow : OpenClaim := { program := "ytpmmifbaoccajaa", sum := "f89777f4c876b9cb446c730c62c734a5ca0c33fd5e03f79b9797d1a221ab74ec", func := "tenaille/tenaillelaw01.OctetsNums", spec := "octetsNums", apart := false }
def OctetsNumsSaid : Prop := octetsNumsRow.holds Try.pinned (OpenSpec.ofChange octetsNumsSpec)

/-- ITS FALSE NEIGHBOUR: 'it returns false'. Refute it at one input. -/
def octetsNumsWrong : ChangeSpec := { name := "octetsNums", fn := fun _ => fun
  | [d1, d2, d3, d4] => { results := [.lit (.bool false)], args := [d1, d2, d3, d4] }
  | _ => none }
def OctetsNumsWrongFalsely : Prop := octetsNumsRow.holds Try.pinned (OpenSpec.ofChange octetsNumsWrong)

/-- 'tenaillelaw01.OctetsOthers': WHATEVER THE INPUT: true; the input reads as it did. -/
def octetsOthersSpec : ChangeSpec := { name := "octetsOthers", fn := fun _ => fun
  | [d1, d2, d3, d4, d5] => { results := [.lit (.bool true)], args := [d1, d2, d3, d4, d5] }
  | _ => none }
def octetsOthersRow : OpenClaim := { program := "ytpmmifbaoccajaa", sum := "f89777f4c876b9cb446c730c62c734a5ca0c33fd5e03f79b9797d1a221ab74ec", func := "tenaille/tenaillelaw01.OctetsOthers", spec := "octetsOthers", apart := false }
def OctetsOthersSaid : Prop := octetsOthersRow.holds Try.pinned (OpenSpec.ofChange octetsOthersSpec)

/-- ITS FALSE NEIGHBOUR: 'it returns false'. Refute it at one input. -/
def octetsOthersWrong : ChangeSpec := { name := "octetsOthers", fn := fun _ => fun
  | [d1, d2, d3, d4, d5] => { results := [.lit (.bool false)], args := [d1, d2, d3, d4, d5] }
  | _ => none }
def OctetsOthersWrongFalsely : Prop := octetsOthersRow.holds Try.pinned (OpenSpec.ofChange octetsOthersWrong)

/-- 'tenaillelaw01.OctetsOwn': WHATEVER THE INPUT: true; the input reads as it did. -/
def octetsOwnSpec : ChangeSpec := { name := "octetsOwn", fn := fun _ => fun
  | [d1, d2, d3, d4] => { results := [.lit (.bool true)], args := [d1, d2, d3, d4] }
  | _ => none }
def octetsOwnRow : OpenClaim := { program := "ytpmmifbaoccajaa", sum := "f89777f4c876b9cb446c730c62c734a5ca0c33fd5e03f79b9797d1a221ab74ec", func := "tenaille/tenaillelaw01.OctetsOwn", spec := "octetsOwn", apart := false }
def OctetsOwnSaid : Prop := octetsOwnRow.holds Try.pinned (OpenSpec.ofChange octetsOwnSpec)

/-- ITS FALSE NEIGHBOUR: 'it returns false'. Refute it at one input. -/
def octetsOwnWrong : ChangeSpec := { name := "octetsOwn", fn := fun _ => fun
  | [d1, d2, d3, d4] => { results := [.lit (.bool false)], args := [d1, d2, d3, d4] }
  | _ => none }
def OctetsOwnWrongFalsely : Prop := octetsOwnRow.holds Try.pinned (OpenSpec.ofChange octetsOwnWrong)

/- THE SECOND FORM. 'bulk': how many values and letters a reading holds, each counted each time it is reached (what is shared counts as often as it is met; a slice's spare places count too). A statement '..UptoSaid' is the law's where the arguments, and the package variables that the reading takes, are together of bulk at most 1048576: NARROWER than '..Said'. Prove '..Said' where nothing that the law and all that it calls make is longer than what came in: it says more and counts as full. Else prove '..UptoSaid'. A law counts once. -/
mutual
def uptoBulk {H : Type} : DataW H → Nat
  | .lit (.string bytes) => bytes.length + 1
  | .lit _ => 1
  | .nil => 1
  | .ptr d => uptoBulk d + 1
  | .slice elems spare => uptoBulkAll elems + uptoBulkAll spare + 1
  | .agg parts => uptoBulkAll parts + 1
  | .iface _ d => uptoBulk d + 1
  | .map entries => uptoBulkEntries entries + 1
  | .held _ => 1
def uptoBulkAll {H : Type} : List (DataW H) → Nat
  | [] => 0
  | d :: r => uptoBulk d + uptoBulkAll r
def uptoBulkEntries {H : Type} : List (Lit × DataW H) → Nat
  | [] => 0
  | x :: r => uptoBulkEntry x + uptoBulkEntries r
def uptoBulkEntry {H : Type} : Lit × DataW H → Nat
  | (.string bytes, d) => bytes.length + uptoBulk d + 1
  | (_, d) => uptoBulk d + 1
 end
def uptoSmall : (H : Type) → List (DataW H) → Bool := fun _ ds => decide (uptoBulkAll ds ≤ 1048576)
def OpenSpec.upto (s : _root_.Go.ChangeSpec) : _root_.Go.OpenSpec := { _root_.Go.OpenSpec.ofChange s with cond := some uptoSmall }

/-- 'tenaillelaw01.OctetsNums', WHERE WHAT IT READS IS OF BULK AT MOST 1048576: true; the input reads as it did. -/
def octetsNumsUptoRow : OpenClaim := { program := "ytpmmifbaoccajaa", sum := "f89777f4c876b9cb446c730c62c734a5ca0c33fd5e03f79b9797d1a221ab74ec", func := "tenaille/tenaillelaw01.OctetsNums", spec := "octetsNums", apart := false, narrowed := true }
def OctetsNumsUptoSaid : Prop := octetsNumsUptoRow.holds Try.pinned (OpenSpec.upto octetsNumsSpec)

/-- 'tenaillelaw01.OctetsOthers', WHERE WHAT IT READS IS OF BULK AT MOST 1048576: true; the input reads as it did. -/
def octetsOthersUptoRow : OpenClaim := { program := "ytpmmifbaoccajaa", sum := "f89777f4c876b9cb446c730c62c734a5ca0c33fd5e03f79b9797d1a221ab74ec", func := "tenaille/tenaillelaw01.OctetsOthers", spec := "octetsOthers", apart := false, narrowed := true }
def OctetsOthersUptoSaid : Prop := octetsOthersUptoRow.holds Try.pinned (OpenSpec.upto octetsOthersSpec)

/-- 'tenaillelaw01.OctetsOwn', WHERE WHAT IT READS IS OF BULK AT MOST 1048576: true; the input reads as it did. -/
def octetsOwnUptoRow : OpenClaim := { program := "ytpmmifbaoccajaa", sum := "f89777f4c876b9cb446c730c62c734a5ca0c33fd5e03f79b9797d1a221ab74ec", func := "tenaille/tenaillelaw01.OctetsOwn", spec := "octetsOwn", apart := false, narrowed := true }
def OctetsOwnUptoSaid : Prop := octetsOwnUptoRow.holds Try.pinned (OpenSpec.upto octetsOwnSpec)

end Rows
end Go.Proofs.Ytpmmifbaoccajaa
