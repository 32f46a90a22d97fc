/- WHAT IS PROVED: for every input the law RewriteOrder of layer 22 returns true and leaves its arguments as they were: of one source places have the order, and the gaps, of the indices there; stamps and pictures go as far as there. Conditions: none beyond the given statement's own. -/
import Derived.Test.YtjlfokfdieafeaaRows
import Derived.Test.YtjlfokfdieafeaaRewFin
import Derived.Test.YtjlfokfdieafeaaOnes
import Derived.Test.YtjlfokfdieafeaaArg
import Derived.WalkKit
import Derived.ProofKit
import Derived.OpenShut
import Derived.ChangeOld
import Derived.Below
namespace Go.Proofs.Ytjlfokfdieafeaa.rewriteOrder
open Go.ChangeShapes Go.WideShapes Go.ChangeAt Go.RowKit
set_option linter.unusedVariables false

theorem own : ownKnob Try.prog.godebug = none := by kernel_rfl
theorem laidOut : laidOutB Try.prog = true := by kernel_rfl

theorem walk (x0_0 x0_1 x0_2 : Int) (x1_0 x1_1 x1_2 : Int) (x2_0 x2_1 x2_2 : Int) (w : World) (w0_0 : (Lit.int .i64 x0_0).wf = true) (w0_1 : (Lit.int .u32 x0_1).wf = true) (w0_2 : (Lit.int .u16 x0_2).wf = true) (w1_0 : (Lit.int .i64 x1_0).wf = true) (w1_1 : (Lit.int .u32 x1_1).wf = true) (w1_2 : (Lit.int .u16 x1_2).wf = true) (w2_0 : (Lit.int .i64 x2_0).wf = true) (w2_1 : (Lit.int .u32 x2_1).wf = true) (w2_2 : (Lit.int .u16 x2_2).wf = true) :
    Calls Try.prog 4 #[.agg #[.int .i64 x0_0, .int .u32 x0_1, .int .u16 x0_2], .agg #[.int .i64 x1_0, .int .u32 x1_1, .int .u16 x1_2], .agg #[.int .i64 x2_0, .int .u32 x2_1, .int .u16 x2_2]] w fun e w' => e = .returned (.bool true) ∧ Below w.heap.size w w' := by
  exact rewriteOrder_walk tells22 x0_0 x0_1 x0_2 x1_0 x1_1 x1_2 x2_0 x2_1 x2_2 w (bounds_i64 w0_0) (lt32w w0_1) (lt16w w0_2) (bounds_i64 w1_0) (lt32w w1_1) (lt16w w1_2) (bounds_i64 w2_0) (lt32w w2_1) (lt16w w2_2)

set_option maxRecDepth 100000 in
theorem lifted (os : Os) (started : os.Started) (H : Type) (enc : TypeId × Value → H) :
    ReturnsInHanded {} Try.checked os 4 .any (Rows.rewriteOrderSpec.pre6 enc Try.prog Try.f4 Rows.rewriteOrderRow.domain false) (Rows.rewriteOrderSpec.post enc Try.prog Try.f4 false true false false) := by
  refine returnsInHanded_of_change (C := Try.checked) own started (by kernel_rfl) Try.func4
    (ChangeSpec.witness6 (enc := enc) (C := Try.checked) false ⟨#[], #[.agg #[.int .i64 0, .int .u32 0, .int .u16 0], .agg #[.int .i64 0, .int .u32 0, .int .u16 0], .agg #[.int .i64 0, .int .u32 0, .int .u16 0]], []⟩ 8 (by kernel_rfl) (by kernel_rfl) (by kernel_rfl) (by kernel_rfl)) ?_
  intro W base args ds gs before hval0 hW hcnd _
  have hval : ∀ (j : Nat) t v, Try.f4.params[j]? = some t → args[j]? = some v → Value.okWide Try.prog W .any base t v := hval0
  have hW' := hW
  obtain ⟨p, q, hA0, hV, rfl, hfz, hnd⟩ := hW
  have hA : DataW.TrodAll enc Try.prog W 0 (fun _ => true) true Try.f4.params.toList args.toList ds p := hA0
  rw [Try.params4] at hA hval
  obtain ⟨v0, vs0, d0, ds0, p0, q0, hargs, rfl, rfl, h0, r0⟩ := trodAll_cons hA
  obtain ⟨v1, vs1, d1, ds1, p1, q1, rfl, rfl, rfl, h1, r1⟩ := trodAll_cons r0
  obtain ⟨v2, vs2, d2, ds2, p2, q2, rfl, rfl, rfl, h2, r2⟩ := trodAll_cons r1
  obtain ⟨rfl, rfl, rfl⟩ := trodAll_nil r2
  obtain rfl : args = #[v0, v1, v2] := by cases args; simp_all
  obtain ⟨rfl, rfl⟩ := trodVars_none hV
  have k0 := h0
  have lt0 : ∀ x ∈ p0, x.block < W.heap.size := by obtain ⟨m, hm⟩ := k0; exact DataW.trod_lt m _ _ _ hm
  obtain ⟨l0, rfl, o0⟩ := open_ones [.int .i64, .int .u32, .int .u16] Try.underlying35 (by kernel_rfl) (by kernel_rfl) (by kernel_rfl) (hval 0 35 v0 rfl rfl) h0
  obtain ⟨c0_0, c0_1, c0_2, rfl, ⟨x0_0, rfl, w0_0⟩, ⟨x0_1, rfl, w0_1⟩, ⟨x0_2, rfl, w0_2⟩⟩ := okAll3 o0
  have k1 := h1
  have lt1 : ∀ x ∈ p1, x.block < W.heap.size := by obtain ⟨m, hm⟩ := k1; exact DataW.trod_lt m _ _ _ hm
  obtain ⟨l1, rfl, o1⟩ := open_ones [.int .i64, .int .u32, .int .u16] Try.underlying35 (by kernel_rfl) (by kernel_rfl) (by kernel_rfl) (hval 1 35 v1 rfl rfl) h1
  obtain ⟨c1_0, c1_1, c1_2, rfl, ⟨x1_0, rfl, w1_0⟩, ⟨x1_1, rfl, w1_1⟩, ⟨x1_2, rfl, w1_2⟩⟩ := okAll3 o1
  have k2 := h2
  have lt2 : ∀ x ∈ p2, x.block < W.heap.size := by obtain ⟨m, hm⟩ := k2; exact DataW.trod_lt m _ _ _ hm
  obtain ⟨l2, rfl, o2⟩ := open_ones [.int .i64, .int .u32, .int .u16] Try.underlying35 (by kernel_rfl) (by kernel_rfl) (by kernel_rfl) (hval 2 35 v2 rfl rfl) h2
  obtain ⟨c2_0, c2_1, c2_2, rfl, ⟨x2_0, rfl, w2_0⟩, ⟨x2_1, rfl, w2_1⟩, ⟨x2_2, rfl, w2_2⟩⟩ := okAll3 o2
  clear hA0 hval0
  simp only [List.append_nil] at hW'
  refine (walk x0_0 x0_1 x0_2 x1_0 x1_1 x1_2 x2_0 x2_1 x2_2 W w0_0 w0_1 w0_2 w1_0 w1_1 w1_2 w2_0 w2_1 w2_2).mono fun e W' ⟨he, bel⟩ => ?_
  subst he
  exact ⟨_, rfl, _, _, _, [], _, [], hW', trodAll_mk1 (shut_bool Try.underlying4 _), (trodAll_cons_mk (Below.trod laidOut (by kernel_rfl) (of_decide_eq_true (by kernel_rfl)) k0 bel lt0) (trodAll_cons_mk (Below.trod laidOut (by kernel_rfl) (of_decide_eq_true (by kernel_rfl)) k1 bel lt1) (trodAll_cons_mk (Below.trod laidOut (by kernel_rfl) (of_decide_eq_true (by kernel_rfl)) k2 bel lt2) trodAll_mk0))), rfl, bel.frame _, fun h => by cases h⟩

theorem over : Rows.rewriteOrderRow.holds Try.pinned (OpenSpec.ofChange Rows.rewriteOrderSpec) :=
  OpenClaim.holds_of_wide 4 Try.f4 rfl rfl rfl rfl rfl rfl rfl ⟨rfl, rfl, rfl, rfl, rfl⟩ rfl rfl rfl rfl rfl (by kernel_rfl) Try.func4 (by kernel_rfl)
    (of_decide_eq_true (by kernel_rfl)) (by unfold Func.isWrapper; first | (rw [if_pos (by decide +kernel)]; kernel_rfl) | (rw [if_neg (by decide +kernel)]; exact ⟨rfl, rfl⟩))
    (fun os started H enc _ => lifted os started H enc)

theorem proved : Rows.RewriteOrderSaid := over
#print axioms proved
end Go.Proofs.Ytjlfokfdieafeaa.rewriteOrder
