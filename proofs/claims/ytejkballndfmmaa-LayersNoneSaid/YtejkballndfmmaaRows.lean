/-
  No cell of these rows narrows 'for every input' (looked for: loops, veiled, ifaces, maps, wideKeys, modest, calm, conditions, laid).
  DERIVED. THE GIVEN ROWS OF THIS SEAT. 3 by the template 'for every input the law returns true; each argument reads behind the call as it read before'; 0 by the template 'total and deterministic' (their statements: YtejkballndfmmaaTotals.lean).
  GIVEN WITH THE SEED: the statements are not yours to turn. If you find one false, say at which input.
  Laid BY PROGRAM, IN A SANDBOX (cutbox-rows.mjs): the forced cells as the released guide's own fill.sh prints them over the translation 4c8ad364417c15a8… (all of the seat's roots in one cut). By AI agents, Wed Nov 11 2026. No macro, syntax, notation, axiom, sorry.
-/
import Derived.Test.YtejkballndfmmaaChecked
import GoSem.Claim
import GoSem.ClaimJoined
import GoSem.ClaimMapViews
import Derived.JoinedTies
import Derived.KernelRfl
namespace Go.Proofs.Ytejkballndfmmaa
/- THE CELL 'sum', in the pinned program and in every row, IS THE sha256 OF THE DUMP (.gsa) THAT YtejkballndfmmaaProg.lean LOADS. Nothing in Lean hashes anything: it is a label: what it is worth is what the hold of that sum in a sandbox is worth. -/
noncomputable def Try.pinned : Pinned := { name := "ytejkballndfmmaa", sum := "4c8ad364417c15a8fa89d446ff38fbc579864ccb8d2d624283610472c7c6cae8", checked := Try.checked }
namespace Rows
def none {H : Type} : Left H := { results := [], args := [] }

/-- 'tenaillelaw23.LayersPlays': WHATEVER THE INPUT: true; the input reads as it did. -/
def layersPlaysSpec : ChangeSpec := { name := "layersPlays", fn := fun _ => fun
  | [d1, d2] => { results := [.lit (.bool true)], args := [d1, d2] }
  | _ => none }
def layersPlaysRow : OpenClaim := { program := "ytejkballndfmmaa", sum := "4c8ad364417c15a8fa89d446ff38fbc579864ccb8d2d624283610472c7c6cae8", func := "tenaille/tenaillelaw23.LayersPlays", spec := "layersPlays", unfollowed := true, recurses := true, apart := false }
def LayersPlaysSaid : Prop := layersPlaysRow.holds Try.pinned (OpenSpec.ofChange layersPlaysSpec)

/-- ITS FALSE NEIGHBOUR: 'it returns false'. Refute it at one input. -/
def layersPlaysWrong : ChangeSpec := { name := "layersPlays", fn := fun _ => fun
  | [d1, d2] => { results := [.lit (.bool false)], args := [d1, d2] }
  | _ => none }
def LayersPlaysWrongFalsely : Prop := layersPlaysRow.holds Try.pinned (OpenSpec.ofChange layersPlaysWrong)

/-- 'tenaillelaw23.LayersTurns': WHATEVER THE INPUT: true; the input reads as it did. -/
def layersTurnsSpec : ChangeSpec := { name := "layersTurns", fn := fun _ => fun
  | [d1, d2] => { results := [.lit (.bool true)], args := [d1, d2] }
  | _ => none }
def layersTurnsRow : OpenClaim := { program := "ytejkballndfmmaa", sum := "4c8ad364417c15a8fa89d446ff38fbc579864ccb8d2d624283610472c7c6cae8", func := "tenaille/tenaillelaw23.LayersTurns", spec := "layersTurns", unfollowed := true, recurses := true, apart := false }
def LayersTurnsSaid : Prop := layersTurnsRow.holds Try.pinned (OpenSpec.ofChange layersTurnsSpec)

/-- ITS FALSE NEIGHBOUR: 'it returns false'. Refute it at one input. -/
def layersTurnsWrong : ChangeSpec := { name := "layersTurns", fn := fun _ => fun
  | [d1, d2] => { results := [.lit (.bool false)], args := [d1, d2] }
  | _ => none }
def LayersTurnsWrongFalsely : Prop := layersTurnsRow.holds Try.pinned (OpenSpec.ofChange layersTurnsWrong)

/-- 'tenaillelaw23.LayersNone': WHATEVER THE INPUT: true; the input reads as it did. -/
def layersNoneSpec : ChangeSpec := { name := "layersNone", fn := fun _ => fun
  | [d1, d2] => { results := [.lit (.bool true)], args := [d1, d2] }
  | _ => none }
def layersNoneRow : OpenClaim := { program := "ytejkballndfmmaa", sum := "4c8ad364417c15a8fa89d446ff38fbc579864ccb8d2d624283610472c7c6cae8", func := "tenaille/tenaillelaw23.LayersNone", spec := "layersNone", unfollowed := true, recurses := true, apart := false }
def LayersNoneSaid : Prop := layersNoneRow.holds Try.pinned (OpenSpec.ofChange layersNoneSpec)

/-- ITS FALSE NEIGHBOUR: 'it returns false'. Refute it at one input. -/
def layersNoneWrong : ChangeSpec := { name := "layersNone", fn := fun _ => fun
  | [d1, d2] => { results := [.lit (.bool false)], args := [d1, d2] }
  | _ => none }
def LayersNoneWrongFalsely : Prop := layersNoneRow.holds Try.pinned (OpenSpec.ofChange layersNoneWrong)

/- THE SECOND FORM. 'bulk': how many values and letters a reading holds, each counted each time it is reached (what is shared counts as often as it is met; a slice's spare places count too). A statement '..UptoSaid' is the law's where the arguments, and the package variables that the reading takes, are together of bulk at most 1048576: NARROWER than '..Said'. Prove '..Said' where nothing that the law and all that it calls make is longer than what came in: it says more and counts as full. Else prove '..UptoSaid'. A law counts once. -/
mutual
def uptoBulk {H : Type} : DataW H → Nat
  | .lit (.string bytes) => bytes.length + 1
  | .lit _ => 1
  | .nil => 1
  | .ptr d => uptoBulk d + 1
  | .slice elems spare => uptoBulkAll elems + uptoBulkAll spare + 1
  | .agg parts => uptoBulkAll parts + 1
  | .iface _ d => uptoBulk d + 1
  | .map entries => uptoBulkEntries entries + 1
  | .held _ => 1
def uptoBulkAll {H : Type} : List (DataW H) → Nat
  | [] => 0
  | d :: r => uptoBulk d + uptoBulkAll r
def uptoBulkEntries {H : Type} : List (Lit × DataW H) → Nat
  | [] => 0
  | x :: r => uptoBulkEntry x + uptoBulkEntries r
def uptoBulkEntry {H : Type} : Lit × DataW H → Nat
  | (.string bytes, d) => bytes.length + uptoBulk d + 1
  | (_, d) => uptoBulk d + 1
 end
def uptoSmall : (H : Type) → List (DataW H) → Bool := fun _ ds => decide (uptoBulkAll ds ≤ 1048576)
def OpenSpec.upto (s : _root_.Go.ChangeSpec) : _root_.Go.OpenSpec := { _root_.Go.OpenSpec.ofChange s with cond := some uptoSmall }

/-- 'tenaillelaw23.LayersPlays', WHERE WHAT IT READS IS OF BULK AT MOST 1048576: true; the input reads as it did. -/
def layersPlaysUptoRow : OpenClaim := { program := "ytejkballndfmmaa", sum := "4c8ad364417c15a8fa89d446ff38fbc579864ccb8d2d624283610472c7c6cae8", func := "tenaille/tenaillelaw23.LayersPlays", spec := "layersPlays", unfollowed := true, recurses := true, apart := false, narrowed := true }
def LayersPlaysUptoSaid : Prop := layersPlaysUptoRow.holds Try.pinned (OpenSpec.upto layersPlaysSpec)

/-- 'tenaillelaw23.LayersTurns', WHERE WHAT IT READS IS OF BULK AT MOST 1048576: true; the input reads as it did. -/
def layersTurnsUptoRow : OpenClaim := { program := "ytejkballndfmmaa", sum := "4c8ad364417c15a8fa89d446ff38fbc579864ccb8d2d624283610472c7c6cae8", func := "tenaille/tenaillelaw23.LayersTurns", spec := "layersTurns", unfollowed := true, recurses := true, apart := false, narrowed := true }
def LayersTurnsUptoSaid : Prop := layersTurnsUptoRow.holds Try.pinned (OpenSpec.upto layersTurnsSpec)

/-- 'tenaillelaw23.LayersNone', WHERE WHAT IT READS IS OF BULK AT MOST 1048576: true; the input reads as it did. -/
def layersNoneUptoRow : OpenClaim := { program := "ytejkballndfmmaa", sum := "4c8ad364417c15a8fa89d446ff38fbc579864ccb8d2d624283610472c7c6cae8", func := "tenaille/tenaillelaw23.LayersNone", spec := "layersNone", unfollowed := true, recurses := true, apart := false, narrowed := true }
def LayersNoneUptoSaid : Prop := layersNoneUptoRow.holds Try.pinned (OpenSpec.upto layersNoneSpec)

end Rows
end Go.Proofs.Ytejkballndfmmaa
