/- WHAT IS PROVED: for every input the law LossesReports of layer 20 returns true and leaves its arguments as they were: the report of any standings is the document's. Conditions: none beyond the given statement's own. -/
import Derived.Test.YtkmacpmdgbhhkaaRows
import Derived.Test.YtkmacpmdgbhhkaaLosFinR
import Derived.Test.YtkmacpmdgbhhkaaOnes
import Derived.Test.YtkmacpmdgbhhkaaArg
import Derived.WalkKit
import Derived.ProofKit
import Derived.OpenShut
import Derived.ChangeOld
import Derived.Below
namespace Go.Proofs.Ytkmacpmdgbhhkaa.lossesReports
open Go.ChangeShapes Go.WideShapes Go.ChangeAt Go.RowKit
set_option linter.unusedVariables false

theorem own : ownKnob Try.prog.godebug = none := by kernel_rfl
theorem laidOut : laidOutB Try.prog = true := by kernel_rfl

theorem walk (x0_0 x0_1 x0_2 x0_3 x0_4 x0_5 x0_6 : Int) (x1_0 x1_1 x1_2 : Int) (x1_3 : Bool) (x2_0 x2_1 x2_2 : Int) (x2_3 : Bool) (w : World) (w0_0 : (Lit.int .u32 x0_0).wf = true) (w0_1 : (Lit.int .u8 x0_1).wf = true) (w0_2 : (Lit.int .i32 x0_2).wf = true) (w0_3 : (Lit.int .u32 x0_3).wf = true) (w0_4 : (Lit.int .u32 x0_4).wf = true) (w0_5 : (Lit.int .u32 x0_5).wf = true) (w0_6 : (Lit.int .u32 x0_6).wf = true) (w1_0 : (Lit.int .i64 x1_0).wf = true) (w1_1 : (Lit.int .i64 x1_1).wf = true) (w1_2 : (Lit.int .i64 x1_2).wf = true) (w2_0 : (Lit.int .i64 x2_0).wf = true) (w2_1 : (Lit.int .i64 x2_1).wf = true) (w2_2 : (Lit.int .i64 x2_2).wf = true) :
    Calls Try.prog 5 #[.agg #[.int .u32 x0_0, .int .u8 x0_1, .int .i32 x0_2, .int .u32 x0_3, .int .u32 x0_4, .int .u32 x0_5, .int .u32 x0_6], .agg #[.int .i64 x1_0, .int .i64 x1_1, .int .i64 x1_2, .bool x1_3], .agg #[.int .i64 x2_0, .int .i64 x2_1, .int .i64 x2_2, .bool x2_3]] w fun e w' => e = .returned (.bool true) ∧ Below w.heap.size w w' := by
  exact lossesReports_walk tells20 x0_0 x0_1 x0_2 x0_3 x0_4 x0_5 x0_6 x1_0 x1_1 x1_2 x2_0 x2_1 x2_2 x1_3 x2_3 w

set_option maxRecDepth 100000 in
theorem lifted (os : Os) (started : os.Started) (H : Type) (enc : TypeId × Value → H) :
    ReturnsInHanded {} Try.checked os 5 .any (Rows.lossesReportsSpec.pre6 enc Try.prog Try.f5 Rows.lossesReportsRow.domain false) (Rows.lossesReportsSpec.post enc Try.prog Try.f5 false true false false) := by
  refine returnsInHanded_of_change (C := Try.checked) own started (by kernel_rfl) Try.func5
    (ChangeSpec.witness6 (enc := enc) (C := Try.checked) false ⟨#[], #[.agg #[.int .u32 0, .int .u8 0, .int .i32 0, .int .u32 0, .int .u32 0, .int .u32 0, .int .u32 0], .agg #[.int .i64 0, .int .i64 0, .int .i64 0, .bool false], .agg #[.int .i64 0, .int .i64 0, .int .i64 0, .bool false]], []⟩ 8 (by kernel_rfl) (by kernel_rfl) (by kernel_rfl) (by kernel_rfl)) ?_
  intro W base args ds gs before hval0 hW hcnd _
  have hval : ∀ (j : Nat) t v, Try.f5.params[j]? = some t → args[j]? = some v → Value.okWide Try.prog W .any base t v := hval0
  have hW' := hW
  obtain ⟨p, q, hA0, hV, rfl, hfz, hnd⟩ := hW
  have hA : DataW.TrodAll enc Try.prog W 0 (fun _ => true) true Try.f5.params.toList args.toList ds p := hA0
  rw [Try.params5] at hA hval
  obtain ⟨v0, vs0, d0, ds0, p0, q0, hargs, rfl, rfl, h0, r0⟩ := trodAll_cons hA
  obtain ⟨v1, vs1, d1, ds1, p1, q1, rfl, rfl, rfl, h1, r1⟩ := trodAll_cons r0
  obtain ⟨v2, vs2, d2, ds2, p2, q2, rfl, rfl, rfl, h2, r2⟩ := trodAll_cons r1
  obtain ⟨rfl, rfl, rfl⟩ := trodAll_nil r2
  obtain rfl : args = #[v0, v1, v2] := by cases args; simp_all
  obtain ⟨rfl, rfl⟩ := trodVars_none hV
  have k0 := h0
  have lt0 : ∀ x ∈ p0, x.block < W.heap.size := by obtain ⟨m, hm⟩ := k0; exact DataW.trod_lt m _ _ _ hm
  obtain ⟨l0, rfl, o0⟩ := open_ones [.int .u32, .int .u8, .int .i32, .int .u32, .int .u32, .int .u32, .int .u32] Try.underlying48 (by kernel_rfl) (by kernel_rfl) (by kernel_rfl) (hval 0 48 v0 rfl rfl) h0
  obtain ⟨c0_0, c0_1, c0_2, c0_3, c0_4, c0_5, c0_6, rfl, ⟨x0_0, rfl, w0_0⟩, ⟨x0_1, rfl, w0_1⟩, ⟨x0_2, rfl, w0_2⟩, ⟨x0_3, rfl, w0_3⟩, ⟨x0_4, rfl, w0_4⟩, ⟨x0_5, rfl, w0_5⟩, ⟨x0_6, rfl, w0_6⟩⟩ := okAll7 o0
  have k1 := h1
  have lt1 : ∀ x ∈ p1, x.block < W.heap.size := by obtain ⟨m, hm⟩ := k1; exact DataW.trod_lt m _ _ _ hm
  obtain ⟨l1, rfl, o1⟩ := open_ones [.int .i64, .int .i64, .int .i64, .bool] Try.underlying50 (by kernel_rfl) (by kernel_rfl) (by kernel_rfl) (hval 1 50 v1 rfl rfl) h1
  obtain ⟨c1_0, c1_1, c1_2, c1_3, rfl, ⟨x1_0, rfl, w1_0⟩, ⟨x1_1, rfl, w1_1⟩, ⟨x1_2, rfl, w1_2⟩, ⟨x1_3, rfl⟩⟩ := okAll4 o1
  have k2 := h2
  have lt2 : ∀ x ∈ p2, x.block < W.heap.size := by obtain ⟨m, hm⟩ := k2; exact DataW.trod_lt m _ _ _ hm
  obtain ⟨l2, rfl, o2⟩ := open_ones [.int .i64, .int .i64, .int .i64, .bool] Try.underlying50 (by kernel_rfl) (by kernel_rfl) (by kernel_rfl) (hval 2 50 v2 rfl rfl) h2
  obtain ⟨c2_0, c2_1, c2_2, c2_3, rfl, ⟨x2_0, rfl, w2_0⟩, ⟨x2_1, rfl, w2_1⟩, ⟨x2_2, rfl, w2_2⟩, ⟨x2_3, rfl⟩⟩ := okAll4 o2
  clear hA0 hval0
  simp only [List.append_nil] at hW'
  refine (walk x0_0 x0_1 x0_2 x0_3 x0_4 x0_5 x0_6 x1_0 x1_1 x1_2 x1_3 x2_0 x2_1 x2_2 x2_3 W w0_0 w0_1 w0_2 w0_3 w0_4 w0_5 w0_6 w1_0 w1_1 w1_2 w2_0 w2_1 w2_2).mono fun e W' ⟨he, bel⟩ => ?_
  subst he
  exact ⟨_, rfl, _, _, _, [], _, [], hW', trodAll_mk1 (shut_bool Try.underlying4 _), (trodAll_cons_mk (Below.trod laidOut (by kernel_rfl) (of_decide_eq_true (by kernel_rfl)) k0 bel lt0) (trodAll_cons_mk (Below.trod laidOut (by kernel_rfl) (of_decide_eq_true (by kernel_rfl)) k1 bel lt1) (trodAll_cons_mk (Below.trod laidOut (by kernel_rfl) (of_decide_eq_true (by kernel_rfl)) k2 bel lt2) trodAll_mk0))), rfl, bel.frame _, fun h => by cases h⟩

theorem over : Rows.lossesReportsRow.holds Try.pinned (OpenSpec.ofChange Rows.lossesReportsSpec) :=
  OpenClaim.holds_of_wide 5 Try.f5 rfl rfl rfl rfl rfl rfl rfl ⟨rfl, rfl, rfl, rfl, rfl⟩ rfl rfl rfl rfl rfl (by kernel_rfl) Try.func5 (by kernel_rfl)
    (of_decide_eq_true (by kernel_rfl)) (by unfold Func.isWrapper; first | (rw [if_pos (by decide +kernel)]; kernel_rfl) | (rw [if_neg (by decide +kernel)]; exact ⟨rfl, rfl⟩))
    (fun os started H enc _ => lifted os started H enc)

theorem proved : Rows.LossesReportsSaid := over
#print axioms proved
end Go.Proofs.Ytkmacpmdgbhhkaa.lossesReports
