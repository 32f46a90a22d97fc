/- WHAT IS PROVED: for every input the law KeysAll of layer 7 returns true and leaves its argument as it was: the keys of RTP and of RTCP of any master are the document's, and the document's example comes out. Conditions: none beyond the given statement's own. -/
import Derived.Test.YtmfceenkndjjoaaRows
import Derived.Test.YtmfceenkndjjoaaKeyAll
import Derived.Test.YtmfceenkndjjoaaArg2
import Derived.WalkKit
import Derived.ProofKit
import Derived.OpenShut
import Derived.ChangeOld
import Derived.Below
namespace Go.Proofs.Ytmfceenkndjjoaa.keysAll
open Go.ChangeShapes Go.WideShapes Go.ChangeAt Go.RowKit
set_option linter.unusedVariables false

theorem own : ownKnob Try.prog.godebug = none := by kernel_rfl
theorem laidOut : laidOutB Try.prog = true := by kernel_rfl
theorem recT25 : Try.prog.readableRec 25 = true := by kernel_rfl
theorem rowT25 : (25 : TypeId) < Try.prog.types.size := of_decide_eq_true (by kernel_rfl)

theorem walk (x0 y0 : List UInt8) (w : World) (lx0 : x0.length = 16) (ly0 : y0.length = 14) :
    Calls Try.prog 4 #[.agg (cells (x0 ++ y0)).toArray] w fun e w' => e = .returned (.bool true) ∧ Below w.heap.size w w' := by
  exact keysAll_walk x0 y0 w lx0 ly0

set_option maxRecDepth 100000 in
theorem lifted (os : Os) (started : os.Started) (H : Type) (enc : TypeId × Value → H) :
    ReturnsInHanded {} Try.checked os 4 .any (Rows.keysAllSpec.pre6 enc Try.prog Try.f4 Rows.keysAllRow.domain false) (Rows.keysAllSpec.post enc Try.prog Try.f4 false true false false) := by
  refine returnsInHanded_of_change (C := Try.checked) own started (by kernel_rfl) Try.func4
    (ChangeSpec.witness6 (enc := enc) (C := Try.checked) false ⟨#[], #[.agg #[.int .u8 0, .int .u8 0, .int .u8 0, .int .u8 0, .int .u8 0, .int .u8 0, .int .u8 0, .int .u8 0, .int .u8 0, .int .u8 0, .int .u8 0, .int .u8 0, .int .u8 0, .int .u8 0, .int .u8 0, .int .u8 0, .int .u8 0, .int .u8 0, .int .u8 0, .int .u8 0, .int .u8 0, .int .u8 0, .int .u8 0, .int .u8 0, .int .u8 0, .int .u8 0, .int .u8 0, .int .u8 0, .int .u8 0, .int .u8 0]], []⟩ 8 (by kernel_rfl) (by kernel_rfl) (by kernel_rfl) (by kernel_rfl)) ?_
  intro W base args ds gs before hval0 hW hcnd _
  have hval : ∀ (j : Nat) t v, Try.f4.params[j]? = some t → args[j]? = some v → Value.okWide Try.prog W .any base t v := hval0
  have hW' := hW
  obtain ⟨p, q, hA0, hV, rfl, hfz, hnd⟩ := hW
  have hA : DataW.TrodAll enc Try.prog W 0 (fun _ => true) true Try.f4.params.toList args.toList ds p := hA0
  rw [Try.params4] at hA hval
  obtain ⟨v0, vs0, d0, ds0, p0, q0, hargs, rfl, rfl, h0, r0⟩ := trodAll_cons hA
  obtain ⟨rfl, rfl, rfl⟩ := trodAll_nil r0
  obtain rfl : args = #[v0] := by cases args; simp_all
  obtain ⟨rfl, rfl⟩ := trodVars_none hV
  obtain ⟨x0, y0, lx0, ly0, rfl, rfl⟩ := open_pair (n0 := 16) (n1 := 14) Try.underlying25 Try.underlying22 Try.underlying23 Try.underlying5 (by kernel_rfl) (by kernel_rfl) (by kernel_rfl) (by kernel_rfl) rfl rfl (hval 0 25 v0 rfl rfl) h0
  clear hA0 hval0
  simp only [List.append_nil] at hW'
  refine (walk x0 y0 W lx0 ly0).mono fun e W' ⟨he, bel⟩ => ?_
  subst he
  exact ⟨_, rfl, _, _, _, [], _, [], hW', trodAll_mk1 (shut_bool Try.underlying4 _), (trodAll_cons_mk (Go.WideElems.Trod_stays laidOut recT25 rowT25 h0 (by simp) (by simp)) trodAll_mk0), rfl, bel.frame _, fun h => by cases h⟩

theorem over : Rows.keysAllRow.holds Try.pinned (OpenSpec.ofChange Rows.keysAllSpec) :=
  OpenClaim.holds_of_wide 4 Try.f4 rfl rfl rfl rfl rfl rfl rfl ⟨rfl, rfl, rfl, rfl, rfl⟩ rfl rfl rfl rfl rfl (by kernel_rfl) Try.func4 (by kernel_rfl)
    (of_decide_eq_true (by kernel_rfl)) (by unfold Func.isWrapper; first | (rw [if_pos (by decide +kernel)]; kernel_rfl) | (rw [if_neg (by decide +kernel)]; exact ⟨rfl, rfl⟩))
    (fun os started H enc _ => lifted os started H enc)

theorem proved : Rows.KeysAllSaid := over
#print axioms proved
end Go.Proofs.Ytmfceenkndjjoaa.keysAll
