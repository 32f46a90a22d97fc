/-
  No cell of these rows narrows 'for every input' (looked for: loops, veiled, ifaces, maps, wideKeys, modest, calm, conditions, laid).
  DERIVED. THE GIVEN ROWS OF THIS SEAT. 3 by the template 'for every input the law returns true; each argument reads behind the call as it read before'; 0 by the template 'total and deterministic' (their statements: YteofkajdcmjbgaaTotals.lean).
  GIVEN WITH THE SEED: the statements are not yours to turn. If you find one false, say at which input.
  Laid BY PROGRAM, IN A SANDBOX (cutbox-rows.mjs): the forced cells as the released guide's own fill.sh prints them over the translation e8f71828dbf9d4eb… (all of the seat's roots in one cut). By AI agents, Wed Nov 11 2026. No macro, syntax, notation, axiom, sorry.
-/
import Derived.Test.YteofkajdcmjbgaaChecked
import GoSem.Claim
import GoSem.ClaimJoined
import GoSem.ClaimMapViews
import Derived.JoinedTies
import Derived.KernelRfl
namespace Go.Proofs.Yteofkajdcmjbgaa
/- THE CELL 'sum', in the pinned program and in every row, IS THE sha256 OF THE DUMP (.gsa) THAT YteofkajdcmjbgaaProg.lean LOADS. Nothing in Lean hashes anything: it is a label: what it is worth is what the hold of that sum in a sandbox is worth. -/
noncomputable def Try.pinned : Pinned := { name := "yteofkajdcmjbgaa", sum := "e8f71828dbf9d4ebab1d3458ef1bd3ed935cc6943eda6607f97ee08168ea1c1e", checked := Try.checked }
namespace Rows
def none {H : Type} : Left H := { results := [], args := [] }

/-- 'tenaillelaw17.ProbeSteady': WHATEVER THE INPUT: true; the input reads as it did. -/
def probeSteadySpec : ChangeSpec := { name := "probeSteady", fn := fun _ => fun
  | [d1, d2] => { results := [.lit (.bool true)], args := [d1, d2] }
  | _ => none }
def probeSteadyRow : OpenClaim := { program := "yteofkajdcmjbgaa", sum := "e8f71828dbf9d4ebab1d3458ef1bd3ed935cc6943eda6607f97ee08168ea1c1e", func := "tenaille/tenaillelaw17.ProbeSteady", spec := "probeSteady", apart := false }
def ProbeSteadySaid : Prop := probeSteadyRow.holds Try.pinned (OpenSpec.ofChange probeSteadySpec)

/-- ITS FALSE NEIGHBOUR: 'it returns false'. Refute it at one input. -/
def probeSteadyWrong : ChangeSpec := { name := "probeSteady", fn := fun _ => fun
  | [d1, d2] => { results := [.lit (.bool false)], args := [d1, d2] }
  | _ => none }
def ProbeSteadyWrongFalsely : Prop := probeSteadyRow.holds Try.pinned (OpenSpec.ofChange probeSteadyWrong)

/-- 'tenaillelaw17.ProbeLate': WHATEVER THE INPUT: true; the input reads as it did. -/
def probeLateSpec : ChangeSpec := { name := "probeLate", fn := fun _ => fun
  | [d1, d2] => { results := [.lit (.bool true)], args := [d1, d2] }
  | _ => none }
def probeLateRow : OpenClaim := { program := "yteofkajdcmjbgaa", sum := "e8f71828dbf9d4ebab1d3458ef1bd3ed935cc6943eda6607f97ee08168ea1c1e", func := "tenaille/tenaillelaw17.ProbeLate", spec := "probeLate", apart := false }
def ProbeLateSaid : Prop := probeLateRow.holds Try.pinned (OpenSpec.ofChange probeLateSpec)

/-- ITS FALSE NEIGHBOUR: 'it returns false'. Refute it at one input. -/
def probeLateWrong : ChangeSpec := { name := "probeLate", fn := fun _ => fun
  | [d1, d2] => { results := [.lit (.bool false)], args := [d1, d2] }
  | _ => none }
def ProbeLateWrongFalsely : Prop := probeLateRow.holds Try.pinned (OpenSpec.ofChange probeLateWrong)

/-- 'tenaillelaw17.ProbeNone': WHATEVER THE INPUT: true; the input reads as it did. -/
def probeNoneSpec : ChangeSpec := { name := "probeNone", fn := fun _ => fun
  | [d] => { results := [.lit (.bool true)], args := [d] }
  | _ => none }
def probeNoneRow : OpenClaim := { program := "yteofkajdcmjbgaa", sum := "e8f71828dbf9d4ebab1d3458ef1bd3ed935cc6943eda6607f97ee08168ea1c1e", func := "tenaille/tenaillelaw17.ProbeNone", spec := "probeNone", apart := false }
def ProbeNoneSaid : Prop := probeNoneRow.holds Try.pinned (OpenSpec.ofChange probeNoneSpec)

/-- ITS FALSE NEIGHBOUR: 'it returns false'. Refute it at one input. -/
def probeNoneWrong : ChangeSpec := { name := "probeNone", fn := fun _ => fun
  | [d] => { results := [.lit (.bool false)], args := [d] }
  | _ => none }
def ProbeNoneWrongFalsely : Prop := probeNoneRow.holds Try.pinned (OpenSpec.ofChange probeNoneWrong)

/- THE SECOND FORM. 'bulk': how many values and letters a reading holds, each counted each time it is reached (what is shared counts as often as it is met; a slice's spare places count too). A statement '..UptoSaid' is the law's where the arguments, and the package variables that the reading takes, are together of bulk at most 1048576: NARROWER than '..Said'. Prove '..Said' where nothing that the law and all that it calls make is longer than what came in: it says more and counts as full. Else prove '..UptoSaid'. A law counts once. -/
mutual
def uptoBulk {H : Type} : DataW H → Nat
  | .lit (.string bytes) => bytes.length + 1
  | .lit _ => 1
  | .nil => 1
  | .ptr d => uptoBulk d + 1
  | .slice elems spare => uptoBulkAll elems + uptoBulkAll spare + 1
  | .agg parts => uptoBulkAll parts + 1
  | .iface _ d => uptoBulk d + 1
  | .map entries => uptoBulkEntries entries + 1
  | .held _ => 1
def uptoBulkAll {H : Type} : List (DataW H) → Nat
  | [] => 0
  | d :: r => uptoBulk d + uptoBulkAll r
def uptoBulkEntries {H : Type} : List (Lit × DataW H) → Nat
  | [] => 0
  | x :: r => uptoBulkEntry x + uptoBulkEntries r
def uptoBulkEntry {H : Type} : Lit × DataW H → Nat
  | (.string bytes, d) => bytes.length + uptoBulk d + 1
  | (_, d) => uptoBulk d + 1
 end
def uptoSmall : (H : Type) → List (DataW H) → Bool := fun _ ds => decide (uptoBulkAll ds ≤ 1048576)
def OpenSpec.upto (s : _root_.Go.ChangeSpec) : _root_.Go.OpenSpec := { _root_.Go.OpenSpec.ofChange s with cond := some uptoSmall }

/-- 'tenaillelaw17.ProbeSteady', WHERE WHAT IT READS IS OF BULK AT MOST 1048576: true; the input reads as it did. -/
def probeSteadyUptoRow : OpenClaim := { program := "yteofkajdcmjbgaa", sum := "e8f71828dbf9d4ebab1d3458ef1bd3ed935cc6943eda6607f97ee08168ea1c1e", func := "tenaille/tenaillelaw17.ProbeSteady", spec := "probeSteady", apart := false, narrowed := true }
def ProbeSteadyUptoSaid : Prop := probeSteadyUptoRow.holds Try.pinned (OpenSpec.upto probeSteadySpec)

/-- 'tenaillelaw17.ProbeLate', WHERE WHAT IT READS IS OF BULK AT MOST 1048576: true; the input reads as it did. -/
def probeLateUptoRow : OpenClaim := { program := "yteofkajdcmjbgaa", sum := "e8f71828dbf9d4ebab1d3458ef1bd3ed935cc6943eda6607f97ee08168ea1c1e", func := "tenaille/tenaillelaw17.ProbeLate", spec := "probeLate", apart := false, narrowed := true }
def ProbeLateUptoSaid : Prop := probeLateUptoRow.holds Try.pinned (OpenSpec.upto probeLateSpec)

/-- 'tenaillelaw17.ProbeNone', WHERE WHAT IT READS IS OF BULK AT MOST 1048576: true; the input reads as it did. -/
def probeNoneUptoRow : OpenClaim := { program := "yteofkajdcmjbgaa", sum := "e8f71828dbf9d4ebab1d3458ef1bd3ed935cc6943eda6607f97ee08168ea1c1e", func := "tenaille/tenaillelaw17.ProbeNone", spec := "probeNone", apart := false, narrowed := true }
def ProbeNoneUptoSaid : Prop := probeNoneUptoRow.holds Try.pinned (OpenSpec.upto probeNoneSpec)

end Rows
end Go.Proofs.Yteofkajdcmjbgaa
