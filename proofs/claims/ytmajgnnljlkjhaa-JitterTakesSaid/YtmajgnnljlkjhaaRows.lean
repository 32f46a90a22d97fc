/-
  No cell of these rows narrows 'for every input' (looked for: loops, veiled, ifaces, maps, wideKeys, modest, calm, conditions, laid).
  DERIVED. THE GIVEN ROWS OF THIS SEAT. 3 by the template 'for every input the law returns true; each argument reads behind the call as it read before'; 0 by the template 'total and deterministic' (their statements: YtmajgnnljlkjhaaTotals.lean).
  GIVEN WITH THE SEED: the statements are not yours to turn. If you find one false, say at which input.
  Laid BY PROGRAM, IN A SANDBOX (cutbox-rows.mjs): the forced cells as the released guide's own fill.sh prints them over the translation 4e0f5597a4e43692… (all of the seat's roots in one cut). By AI agents, Wed Nov 11 2026. No macro, syntax, notation, axiom, sorry.
-/
import Derived.Test.YtmajgnnljlkjhaaChecked
import GoSem.Claim
import GoSem.ClaimJoined
import GoSem.ClaimMapViews
import Derived.JoinedTies
import Derived.KernelRfl
namespace Go.Proofs.Ytmajgnnljlkjhaa
/- THE CELL 'sum', in the pinned program and in every row, IS THE sha256 OF THE DUMP (.gsa) THAT YtmajgnnljlkjhaaProg.lean LOADS. Nothing in Lean hashes anything: it is a label: what it is worth is what the hold of that sum in a sandbox is worth. -/
noncomputable def Try.pinned : Pinned := { name := "ytmajgnnljlkjhaa", sum := "4e0f5597a4e43692febc35a91523342e1d868dc9a571a27b681569a88e8f2828", checked := Try.checked }
namespace Rows
def none {H : Type} : Left H := { results := [], args := [] }

/-- 'tenaillelaw18.JitterTakes': WHATEVER THE INPUT: true; the input reads as it did. -/
def jitterTakesSpec : ChangeSpec := { name := "jitterTakes", fn := fun _ => fun
  | [d1, d2] => { results := [.lit (.bool true)], args := [d1, d2] }
  | _ => none }
def jitterTakesRow : OpenClaim := { program := "ytmajgnnljlkjhaa", sum := "4e0f5597a4e43692febc35a91523342e1d868dc9a571a27b681569a88e8f2828", func := "tenaille/tenaillelaw18.JitterTakes", spec := "jitterTakes", apart := false }
def JitterTakesSaid : Prop := jitterTakesRow.holds Try.pinned (OpenSpec.ofChange jitterTakesSpec)

/-- ITS FALSE NEIGHBOUR: 'it returns false'. Refute it at one input. -/
def jitterTakesWrong : ChangeSpec := { name := "jitterTakes", fn := fun _ => fun
  | [d1, d2] => { results := [.lit (.bool false)], args := [d1, d2] }
  | _ => none }
def JitterTakesWrongFalsely : Prop := jitterTakesRow.holds Try.pinned (OpenSpec.ofChange jitterTakesWrong)

/-- 'tenaillelaw18.JitterEven': WHATEVER THE INPUT: true; the input reads as it did. -/
def jitterEvenSpec : ChangeSpec := { name := "jitterEven", fn := fun _ => fun
  | [d1, d2, d3] => { results := [.lit (.bool true)], args := [d1, d2, d3] }
  | _ => none }
def jitterEvenRow : OpenClaim := { program := "ytmajgnnljlkjhaa", sum := "4e0f5597a4e43692febc35a91523342e1d868dc9a571a27b681569a88e8f2828", func := "tenaille/tenaillelaw18.JitterEven", spec := "jitterEven", apart := false }
def JitterEvenSaid : Prop := jitterEvenRow.holds Try.pinned (OpenSpec.ofChange jitterEvenSpec)

/-- ITS FALSE NEIGHBOUR: 'it returns false'. Refute it at one input. -/
def jitterEvenWrong : ChangeSpec := { name := "jitterEven", fn := fun _ => fun
  | [d1, d2, d3] => { results := [.lit (.bool false)], args := [d1, d2, d3] }
  | _ => none }
def JitterEvenWrongFalsely : Prop := jitterEvenRow.holds Try.pinned (OpenSpec.ofChange jitterEvenWrong)

/-- 'tenaillelaw18.JitterBound': WHATEVER THE INPUT: true; the input reads as it did. -/
def jitterBoundSpec : ChangeSpec := { name := "jitterBound", fn := fun _ => fun
  | [d] => { results := [.lit (.bool true)], args := [d] }
  | _ => none }
def jitterBoundRow : OpenClaim := { program := "ytmajgnnljlkjhaa", sum := "4e0f5597a4e43692febc35a91523342e1d868dc9a571a27b681569a88e8f2828", func := "tenaille/tenaillelaw18.JitterBound", spec := "jitterBound", apart := false }
def JitterBoundSaid : Prop := jitterBoundRow.holds Try.pinned (OpenSpec.ofChange jitterBoundSpec)

/-- ITS FALSE NEIGHBOUR: 'it returns false'. Refute it at one input. -/
def jitterBoundWrong : ChangeSpec := { name := "jitterBound", fn := fun _ => fun
  | [d] => { results := [.lit (.bool false)], args := [d] }
  | _ => none }
def JitterBoundWrongFalsely : Prop := jitterBoundRow.holds Try.pinned (OpenSpec.ofChange jitterBoundWrong)

/- THE SECOND FORM. 'bulk': how many values and letters a reading holds, each counted each time it is reached (what is shared counts as often as it is met; a slice's spare places count too). A statement '..UptoSaid' is the law's where the arguments, and the package variables that the reading takes, are together of bulk at most 1048576: NARROWER than '..Said'. Prove '..Said' where nothing that the law and all that it calls make is longer than what came in: it says more and counts as full. Else prove '..UptoSaid'. A law counts once. -/
mutual
def uptoBulk {H : Type} : DataW H → Nat
  | .lit (.string bytes) => bytes.length + 1
  | .lit _ => 1
  | .nil => 1
  | .ptr d => uptoBulk d + 1
  | .slice elems spare => uptoBulkAll elems + uptoBulkAll spare + 1
  | .agg parts => uptoBulkAll parts + 1
  | .iface _ d => uptoBulk d + 1
  | .map entries => uptoBulkEntries entries + 1
  | .held _ => 1
def uptoBulkAll {H : Type} : List (DataW H) → Nat
  | [] => 0
  | d :: r => uptoBulk d + uptoBulkAll r
def uptoBulkEntries {H : Type} : List (Lit × DataW H) → Nat
  | [] => 0
  | x :: r => uptoBulkEntry x + uptoBulkEntries r
def uptoBulkEntry {H : Type} : Lit × DataW H → Nat
  | (.string bytes, d) => bytes.length + uptoBulk d + 1
  | (_, d) => uptoBulk d + 1
 end
def uptoSmall : (H : Type) → List (DataW H) → Bool := fun _ ds => decide (uptoBulkAll ds ≤ 1048576)
def OpenSpec.upto (s : _root_.Go.ChangeSpec) : _root_.Go.OpenSpec := { _root_.Go.OpenSpec.ofChange s with cond := some uptoSmall }

/-- 'tenaillelaw18.JitterTakes', WHERE WHAT IT READS IS OF BULK AT MOST 1048576: true; the input reads as it did. -/
def jitterTakesUptoRow : OpenClaim := { program := "ytmajgnnljlkjhaa", sum := "4e0f5597a4e43692febc35a91523342e1d868dc9a571a27b681569a88e8f2828", func := "tenaille/tenaillelaw18.JitterTakes", spec := "jitterTakes", apart := false, narrowed := true }
def JitterTakesUptoSaid : Prop := jitterTakesUptoRow.holds Try.pinned (OpenSpec.upto jitterTakesSpec)

/-- 'tenaillelaw18.JitterEven', WHERE WHAT IT READS IS OF BULK AT MOST 1048576: true; the input reads as it did. -/
def jitterEvenUptoRow : OpenClaim := { program := "ytmajgnnljlkjhaa", sum := "4e0f5597a4e43692febc35a91523342e1d868dc9a571a27b681569a88e8f2828", func := "tenaille/tenaillelaw18.JitterEven", spec := "jitterEven", apart := false, narrowed := true }
def JitterEvenUptoSaid : Prop := jitterEvenUptoRow.holds Try.pinned (OpenSpec.upto jitterEvenSpec)

/-- 'tenaillelaw18.JitterBound', WHERE WHAT IT READS IS OF BULK AT MOST 1048576: true; the input reads as it did. -/
def jitterBoundUptoRow : OpenClaim := { program := "ytmajgnnljlkjhaa", sum := "4e0f5597a4e43692febc35a91523342e1d868dc9a571a27b681569a88e8f2828", func := "tenaille/tenaillelaw18.JitterBound", spec := "jitterBound", apart := false, narrowed := true }
def JitterBoundUptoSaid : Prop := jitterBoundUptoRow.holds Try.pinned (OpenSpec.upto jitterBoundSpec)

end Rows
end Go.Proofs.Ytmajgnnljlkjhaa
